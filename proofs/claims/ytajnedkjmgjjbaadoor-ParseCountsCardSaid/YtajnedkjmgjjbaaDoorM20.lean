/- ParseCounts: a count behind an atom is what it says: the walk. -/
import Derived.Test.YtajnedkjmgjjbaaDoorM19
namespace Go.Proofs.YtajnedkjmgjjbaaDoor
open Go Go.RowKit
set_option linter.unusedVariables false
set_option maxRecDepth 20000

theorem nums_append (a b : ByteArray) : nums (a ++ b) = nums a ++ nums b := by simp [nums]
theorem nums_two {k : Int} (h0 : 0 ≤ k) : nums (strOfNums (twoL k)) = twoL k := nums_strOfNums _ fun c hc => by have := twoL_ascii h0 c hc; omega
theorem two_size (k : Int) : (strOfNums (twoL k)).size ≤ 3 := by rw [strOfNums_size]; unfold twoL; split <;> simp
def cText (A B : ByteArray) : ByteArray := (((⟨#[120, 123]⟩ ++ A) ++ ⟨#[44]⟩) ++ B) ++ ⟨#[125]⟩
def oText (A : ByteArray) : ByteArray := (⟨#[120, 123]⟩ ++ A) ++ ⟨#[44, 125]⟩
theorem cText_tree {n m : Int} (n0 : 0 ≤ n) (n1 : n ≤ 120) (m0 : 0 ≤ m) (m1 : m ≤ 120) : parseT (cText (strOfNums (twoL n)) (strOfNums (twoL m))) = if n ≤ 50 ∧ m ≤ 50 ∧ n ≤ m then some (countT n m) else none := by
  have e : nums (cText (strOfNums (twoL n)) (strOfNums (twoL m))) = 120 :: 123 :: (twoL n ++ 44 :: (twoL m ++ [125])) := by
    unfold cText
    rw [nums_append, nums_append, nums_append, nums_append, nums_two n0, nums_two m0]
    show [120, 123] ++ twoL n ++ [44] ++ twoL m ++ [125] = _
    simp
  unfold parseT
  rw [e, points_ascii _ (by
    intro x hx
    simp only [List.mem_cons, List.mem_append, List.not_mem_nil, or_false] at hx
    rcases hx with rfl | rfl | hx | rfl | hx | rfl
    · decide
    · decide
    · exact twoL_ascii n0 x hx
    · decide
    · exact twoL_ascii m0 x hx
    · decide)]
  show treeL _ = _
  rw [treeL_count, braceL_two n0 n1 m0 m1]
  by_cases h : n ≤ 50 ∧ m ≤ 50 ∧ n ≤ m
  · rw [if_pos h, if_pos h]; rfl
  · rw [if_neg h, if_neg h]
theorem oText_tree {n : Int} (n0 : 0 ≤ n) (n1 : n ≤ 120) : parseT (oText (strOfNums (twoL n))) = if n ≤ 50 then some (countT n (-1)) else none := by
  have e : nums (oText (strOfNums (twoL n))) = 120 :: 123 :: (twoL n ++ [44, 125]) := by
    unfold oText
    rw [nums_append, nums_append, nums_two n0]
    show [120, 123] ++ twoL n ++ [44, 125] = _
    simp
  unfold parseT
  rw [e, points_ascii _ (by
    intro x hx
    simp only [List.mem_cons, List.mem_append, List.not_mem_nil, or_false] at hx
    rcases hx with rfl | rfl | hx | rfl | rfl
    · decide
    · decide
    · exact twoL_ascii n0 x hx
    · decide
    · decide)]
  show treeL _ = _
  rw [treeL_count, braceL_open n0 n1]
  by_cases h : n ≤ 50
  · rw [if_pos h, if_pos h]; rfl
  · rw [if_neg h, if_neg h]

/-- The tree that is wanted, as it was built. -/
theorem want_node {a : World} {b : Nat} {n mx : Int} (h2 : a.heap[b]? = some (.cells #[.int .i64 120, .int .i64 120] 42 (0, 0))) (h3 : a.heap[b + 1]? = some (.cells #[.int .i64 1, .slice (some ⟨b, 0, none⟩) 1 1, .int .i64 0, .int .i64 0, .slice none 0 0] 26 (0, 0))) :
    NodeIn (fun _ => True) a (.agg #[.int .i64 6, .slice none 0 0, .int .i64 n, .int .i64 mx, .slice (some ⟨b + 1, 0, none⟩) 1 1]) (countT n mx) := by
  have l2 := (Array.getElem?_eq_some_iff.1 h2).1
  have l3 := (Array.getElem?_eq_some_iff.1 h3).1
  refine ⟨6, [], n, mx, leaf 1 [(120, 120)], none, some ⟨b + 1, 0, none⟩, 0, 0, 1, 1, rfl, rfl, rowF_nil _ _, rfl, fun _ => ⟨b + 1, 0, rfl, trivial, l3, ⟨some ⟨b, 0, none⟩, none, 1, 1, 0, 0, fun j v hv => ?_, ⟨⟨rfl, fun _ => ⟨b, 0, rfl, l2, fun j hj => ?_⟩⟩, fun _ _ _ _ => trivial⟩, rfl, fun h => absurd h (by omega)⟩, trivial⟩⟩
  · rw [Nat.zero_add, cell_of_row a (b + 1) j _ _ (0, 0) h3]
    simpa [nodeV] using hv
  · have : j = 0 := by omega
    subst this
    exact ⟨cell_of_row a b 0 _ _ (0, 0) h2, cell_of_row a b 1 _ _ (0, 0) h2⟩
theorem want_frame {w3 w6 : World} {n m : Int} (hb : Below ((((w3.alloc (.cells #[.int .i64 6, .slice none 0 0, .int .i64 n, .int .i64 m, .slice (some ⟨w3.heap.size + 1 + 1, 0, none⟩) 1 1] 26)).alloc (.cells #[.int .i64 120, .int .i64 120] 42)).alloc (.cells #[.int .i64 1, .slice (some ⟨w3.heap.size + 1, 0, none⟩) 1 1, .int .i64 0, .int .i64 0, .slice none 0 0] 26))).heap.size ((((w3.alloc (.cells #[.int .i64 6, .slice none 0 0, .int .i64 n, .int .i64 m, .slice (some ⟨w3.heap.size + 1 + 1, 0, none⟩) 1 1] 26)).alloc (.cells #[.int .i64 120, .int .i64 120] 42)).alloc (.cells #[.int .i64 1, .slice (some ⟨w3.heap.size + 1, 0, none⟩) 1 1, .int .i64 0, .int .i64 0, .slice none 0 0] 26))) w6) :
    w6.heap[w3.heap.size]? = some (.cells #[.int .i64 6, .slice none 0 0, .int .i64 n, .int .i64 m, .slice (some ⟨w3.heap.size + 1 + 1, 0, none⟩) 1 1] 26 (0, 0)) ∧ w6.heap[w3.heap.size + 1]? = some (.cells #[.int .i64 120, .int .i64 120] 42 (0, 0)) ∧
      w6.heap[w3.heap.size + 1 + 1]? = some (.cells #[.int .i64 1, .slice (some ⟨w3.heap.size + 1, 0, none⟩) 1 1, .int .i64 0, .int .i64 0, .slice none 0 0] 26 (0, 0)) ∧ w3.heap.size < w6.heap.size ∧ Below w3.heap.size w3 w6 := by
  have s3 : ((((w3.alloc (.cells #[.int .i64 6, .slice none 0 0, .int .i64 n, .int .i64 m, .slice (some ⟨w3.heap.size + 1 + 1, 0, none⟩) 1 1] 26)).alloc (.cells #[.int .i64 120, .int .i64 120] 42)).alloc (.cells #[.int .i64 1, .slice (some ⟨w3.heap.size + 1, 0, none⟩) 1 1, .int .i64 0, .int .i64 0, .slice none 0 0] 26))).heap.size = w3.heap.size + 3 := by simp
  have hs := hb.size
  refine ⟨(hb.block _ (by omega)).trans ((Below.heap_alloc _ _ _ (by simp; omega)).trans ((Below.heap_alloc _ _ _ (by simp)).trans (heap_alloc_new w3 _))), (hb.block _ (by omega)).trans ((Below.heap_alloc _ _ _ (by simp)).trans ?_), (hb.block _ (by omega)).trans ?_, by omega, ((((Below.refl _ _).alloc (Nat.le_refl _) _).alloc (by simp) _).alloc (by simp; omega) _).trans (hb.mono (by omega))⟩
  · exact at_new _ _ (by simp)
  · exact at_new _ _ (by simp)
theorem heavy_count (n mx : Int) : heavy (countT n mx) = 3 := rfl
end Go.Proofs.YtajnedkjmgjjbaaDoor
/- ParseCounts: the walk. -/
namespace Go.Proofs.YtajnedkjmgjjbaaDoor
open Go Go.RowKit
set_option linter.unusedVariables false
set_option maxRecDepth 20000

set_option maxHeartbeats 2000000 in
/-- Numbers that are let go. -/
theorem counts_out (n m : Int) (op : Bool) (w : World) (hM : Pow w) (h : n < 0 ∨ 120 < n ∨ m < 0 ∨ 120 < m) :
    Calls Tryd.prog 6 #[.int .i64 n, .int .i64 m, .bool op] w fun e w' => e = .returned (.bool true) ∧ Below w.heap.size w w' := by
  have HA := Lib.hid (awake_any w hM)
  have HM := Lib.hid hM
  clear hM
  rcases (show n < 0 ∨ (¬ n < 0 ∧ 120 < n) ∨ (¬ n < 0 ∧ ¬ 120 < n ∧ m < 0) ∨ (¬ n < 0 ∧ ¬ 120 < n ∧ ¬ m < 0 ∧ 120 < m) by omega) with h1 | ⟨h1, h2⟩ | ⟨h1, h2, h3⟩ | ⟨h1, h2, h3, h4⟩
  all_goals
    clear h
    go_enter Tryd.func6, Tryd.ntmps6
    go_wp2_with (first
      | (go_at_call 8; (with_reducible refine HA.out.mono ?_); rintro e w1 ⟨rfl, hb⟩; have HB := Lib.hid hb; have HA2 := Lib.hid (awake_any w1 ((HM.out.on hb).up hb.size)); clear hb)
      | (go_at_call 8; (with_reducible refine HA2.out.mono ?_); rintro e w2 ⟨rfl, hb⟩; have HB2 := Lib.hid hb; clear hb))
    go_ret
    exact ⟨rfl, then_ HB.out HB2.out⟩

set_option maxHeartbeats 4000000 in
theorem counts_c1 (n m : Int) (w : World) (hM : Pow w) (n0 : ¬ n < 0) (n1 : ¬ 120 < n) (m0 : ¬ m < 0) (m1 : ¬ 120 < m) (c0 : n ≤ 50) (c1 : m ≤ 50) (c2 : n ≤ m) :
    Calls Tryd.prog 6 #[.int .i64 n, .int .i64 m, .bool false] w fun e w' => e = .returned (.bool true) ∧ Below w.heap.size w w' := by
  have HA := Lib.hid (awake_any w hM)
  have HT1 := Lib.hid fun w => two_any n (by omega) (by omega) w
  have HT2 := Lib.hid fun w => two_any m (by omega) (by omega) w
  have s1 := two_size n
  have s2 := two_size m
  have hpt : parseT (cText (strOfNums (twoL n)) (strOfNums (twoL m))) = some (countT n m) := by rw [cText_tree (by omega) (by omega) (by omega) (by omega)]; exact if_pos ((by omega))
  obtain ⟨A, hA⟩ : ∃ A, A = strOfNums (twoL n) := ⟨_, rfl⟩
  obtain ⟨B, hB⟩ : ∃ B, B = strOfNums (twoL m) := ⟨_, rfl⟩
  rw [← hA] at HT1 s1
  rw [← hB] at HT2 s2
  rw [← hA, ← hB] at hpt
  have k2 : (⟨#[120, 123]⟩ : ByteArray).size = 2 := rfl
  have k1 : (⟨#[44]⟩ : ByteArray).size = 1 := rfl
  have k3 : (⟨#[125]⟩ : ByteArray).size = 1 := rfl
  have k4 : (⟨#[44, 125]⟩ : ByteArray).size = 2 := rfl
  have g1 : ¬ 9223372036854775807 < (⟨#[120, 123]⟩ : ByteArray).size + A.size := by omega
  have g2 : ¬ 9223372036854775807 < (⟨#[120, 123]⟩ ++ A : ByteArray).size + (⟨#[44]⟩ : ByteArray).size := by rw [ba_size]; omega
  have g3 : ¬ 9223372036854775807 < ((⟨#[120, 123]⟩ ++ A) ++ ⟨#[44]⟩ : ByteArray).size + B.size := by rw [ba_size, ba_size]; omega
  have g4 : ¬ 9223372036854775807 < (((⟨#[120, 123]⟩ ++ A) ++ ⟨#[44]⟩) ++ B : ByteArray).size + (⟨#[125]⟩ : ByteArray).size := by rw [ba_size, ba_size, ba_size]; omega
  have g5 : ¬ 9223372036854775807 < (⟨#[120, 123]⟩ ++ A : ByteArray).size + (⟨#[44, 125]⟩ : ByteArray).size := by rw [ba_size]; omega
  have hsz : (cText A B).size ≤ 200 := by unfold cText; rw [ba_size, ba_size, ba_size, ba_size]; omega
  have HP := Lib.hid fun w => parse_some hpt hsz w
  unfold cText at HP
  clear hM hpt hsz hA hB k1 k2 k3 k4 s1 s2
  go_enter Tryd.func6, Tryd.ntmps6
  go_wp2_with (first
    | (go_at_call 8; (with_reducible refine HA.out.mono ?_); rintro e w1 ⟨rfl, hb⟩; have HB1 := Lib.hid hb; clear hb)
    | (go_at_call 19; (with_reducible refine (HT1.out _).mono ?_); rintro e w2 ⟨rfl, hb⟩; have HB2 := Lib.hid hb; clear hb)
    | (go_at_call 19; (with_reducible refine (HT2.out _).mono ?_); rintro e w3 ⟨rfl, hb⟩; have HB3 := Lib.hid hb; clear hb)
    | (go_at_call 9; (with_reducible refine (HP.out _).mono ?_); rintro e w6 ⟨x, rfl, hN, hb⟩; have hF := want_frame hb; obtain ⟨p0, p1, p2, p3, p4, _⟩ := box_facts hF.1; have up := fun (j : Nat) (v : Value) (h : w6.cell? ⟨w3.heap.size, j, none⟩ = some v) => (((Below.refl w6.heap.size w6).alloc (Nat.le_refl _) (.cells #[.int .i64 x.op, .slice x.A x.ns x.cs, .int .i64 x.mn, .int .i64 x.mx, .slice x.D x.nk x.ck] 26)).cell (p := ⟨w3.heap.size, j, none⟩) hF.2.2.2.1).trans h; have d0 := up _ _ p0; have d1 := up _ _ p1; have d2 := up _ _ p2; have d3 := up _ _ p3; have d4 := up _ _ p4; have H6 := Lib.hid (And.intro hN hF); clear hN hb hF up; simp only [NV.val])
    | (go_at_call 11; (with_reducible refine (rsame_any 3 (countT n m) (Nat.le_of_eq (heavy_count _ _)) (countT n m) _ _ _ _ _ ((H6.out.1.below ((Below.refl _ _).alloc (Nat.le_refl _) (.cells #[.int .i64 x.op, .slice x.A x.ns x.cs, .int .i64 x.mn, .int .i64 x.mx, .slice x.D x.nk x.ck] 26))).one') ((want_node H6.out.2.2.1 H6.out.2.2.2.1).below ((Below.refl _ _).alloc (Nat.le_refl _) (.cells #[.int .i64 x.op, .slice x.A x.ns x.cs, .int .i64 x.mn, .int .i64 x.mx, .slice x.D x.nk x.ck] 26))) (by rw [heavy_count]; decide) (by rw [heavy_count]; decide)).mono ?_); rintro e w7 ⟨rfl, hb⟩; rw [Wood.same_refl]; have H7 := Lib.hid hb; clear hb))
  go_ret
  refine ⟨rfl, ?_⟩
  have h3 : Below w.heap.size w w3 := HB1.out.trans ((HB2.out.mono HB1.out.size).trans (HB3.out.mono (Nat.le_trans HB1.out.size HB2.out.size)))
  exact h3.trans ((H6.out.2.2.2.2.2.trans (((Below.refl _ _).alloc (Nat.le_refl _) _).mono H6.out.2.2.2.2.2.size |>.trans (H7.out.mono (Nat.le_trans H6.out.2.2.2.2.2.size (by simp))))).mono h3.size)

set_option maxHeartbeats 4000000 in
theorem counts_c2 (n m : Int) (w : World) (hM : Pow w) (n0 : ¬ n < 0) (n1 : ¬ 120 < n) (m0 : ¬ m < 0) (m1 : ¬ 120 < m) (c0 : ¬ n ≤ 50) :
    Calls Tryd.prog 6 #[.int .i64 n, .int .i64 m, .bool false] w fun e w' => e = .returned (.bool true) ∧ Below w.heap.size w w' := by
  have HA := Lib.hid (awake_any w hM)
  have HT1 := Lib.hid fun w => two_any n (by omega) (by omega) w
  have HT2 := Lib.hid fun w => two_any m (by omega) (by omega) w
  have s1 := two_size n
  have s2 := two_size m
  have hpt : parseT (cText (strOfNums (twoL n)) (strOfNums (twoL m))) = none := by rw [cText_tree (by omega) (by omega) (by omega) (by omega)]; exact if_neg (by omega)
  obtain ⟨A, hA⟩ : ∃ A, A = strOfNums (twoL n) := ⟨_, rfl⟩
  obtain ⟨B, hB⟩ : ∃ B, B = strOfNums (twoL m) := ⟨_, rfl⟩
  rw [← hA] at HT1 s1
  rw [← hB] at HT2 s2
  rw [← hA, ← hB] at hpt
  have k2 : (⟨#[120, 123]⟩ : ByteArray).size = 2 := rfl
  have k1 : (⟨#[44]⟩ : ByteArray).size = 1 := rfl
  have k3 : (⟨#[125]⟩ : ByteArray).size = 1 := rfl
  have k4 : (⟨#[44, 125]⟩ : ByteArray).size = 2 := rfl
  have g1 : ¬ 9223372036854775807 < (⟨#[120, 123]⟩ : ByteArray).size + A.size := by omega
  have g2 : ¬ 9223372036854775807 < (⟨#[120, 123]⟩ ++ A : ByteArray).size + (⟨#[44]⟩ : ByteArray).size := by rw [ba_size]; omega
  have g3 : ¬ 9223372036854775807 < ((⟨#[120, 123]⟩ ++ A) ++ ⟨#[44]⟩ : ByteArray).size + B.size := by rw [ba_size, ba_size]; omega
  have g4 : ¬ 9223372036854775807 < (((⟨#[120, 123]⟩ ++ A) ++ ⟨#[44]⟩) ++ B : ByteArray).size + (⟨#[125]⟩ : ByteArray).size := by rw [ba_size, ba_size, ba_size]; omega
  have g5 : ¬ 9223372036854775807 < (⟨#[120, 123]⟩ ++ A : ByteArray).size + (⟨#[44, 125]⟩ : ByteArray).size := by rw [ba_size]; omega
  have hsz : (cText A B).size ≤ 200 := by unfold cText; rw [ba_size, ba_size, ba_size, ba_size]; omega
  have HP := Lib.hid fun w => parse_no hpt hsz w
  unfold cText at HP
  clear hM hpt hsz hA hB k1 k2 k3 k4 s1 s2
  have b0 : decide (n ≤ 50) = false := decide_eq_false c0
  go_enter Tryd.func6, Tryd.ntmps6
  go_wp2_with (first
    | (go_at_call 8; (with_reducible refine HA.out.mono ?_); rintro e w1 ⟨rfl, hb⟩; have HB1 := Lib.hid hb; clear hb)
    | (go_at_call 19; (with_reducible refine (HT1.out _).mono ?_); rintro e w2 ⟨rfl, hb⟩; have HB2 := Lib.hid hb; clear hb)
    | (go_at_call 19; (with_reducible refine (HT2.out _).mono ?_); rintro e w3 ⟨rfl, hb⟩; have HB3 := Lib.hid hb; clear hb)
    | (go_at_call 9; (with_reducible refine (HP.out _).mono ?_); rintro e w6 ⟨rfl, hb⟩; have hF := want_frame hb; have H6 := Lib.hid hF; clear hb hF; simp only [zeroNV, NV.val])
    | (go_at_call 11; (with_reducible refine (rsame_any 1 zeroN (Nat.le_refl _) zeroN _ _ _ _ _ (node_leaf (fun _ => True) _ 0) (node_leaf (fun _ => True) _ 0) (by decide) (by decide)).mono ?_); rintro e w7 ⟨rfl, hb⟩; rw [Wood.same_refl]; have H7 := Lib.hid hb; clear hb))
  go_ret
  refine ⟨rfl, ?_⟩
  have h3 : Below w.heap.size w w3 := HB1.out.trans ((HB2.out.mono HB1.out.size).trans (HB3.out.mono (Nat.le_trans HB1.out.size HB2.out.size)))
  exact h3.trans ((H6.out.2.2.2.2.trans (((Below.refl _ _).alloc (Nat.le_refl _) _).mono H6.out.2.2.2.2.size |>.trans (H7.out.mono (Nat.le_trans H6.out.2.2.2.2.size (by simp))))).mono h3.size)

set_option maxHeartbeats 4000000 in
theorem counts_c3 (n m : Int) (w : World) (hM : Pow w) (n0 : ¬ n < 0) (n1 : ¬ 120 < n) (m0 : ¬ m < 0) (m1 : ¬ 120 < m) (c0 : n ≤ 50) (c1 : ¬ m ≤ 50) :
    Calls Tryd.prog 6 #[.int .i64 n, .int .i64 m, .bool false] w fun e w' => e = .returned (.bool true) ∧ Below w.heap.size w w' := by
  have HA := Lib.hid (awake_any w hM)
  have HT1 := Lib.hid fun w => two_any n (by omega) (by omega) w
  have HT2 := Lib.hid fun w => two_any m (by omega) (by omega) w
  have s1 := two_size n
  have s2 := two_size m
  have hpt : parseT (cText (strOfNums (twoL n)) (strOfNums (twoL m))) = none := by rw [cText_tree (by omega) (by omega) (by omega) (by omega)]; exact if_neg (by omega)
  obtain ⟨A, hA⟩ : ∃ A, A = strOfNums (twoL n) := ⟨_, rfl⟩
  obtain ⟨B, hB⟩ : ∃ B, B = strOfNums (twoL m) := ⟨_, rfl⟩
  rw [← hA] at HT1 s1
  rw [← hB] at HT2 s2
  rw [← hA, ← hB] at hpt
  have k2 : (⟨#[120, 123]⟩ : ByteArray).size = 2 := rfl
  have k1 : (⟨#[44]⟩ : ByteArray).size = 1 := rfl
  have k3 : (⟨#[125]⟩ : ByteArray).size = 1 := rfl
  have k4 : (⟨#[44, 125]⟩ : ByteArray).size = 2 := rfl
  have g1 : ¬ 9223372036854775807 < (⟨#[120, 123]⟩ : ByteArray).size + A.size := by omega
  have g2 : ¬ 9223372036854775807 < (⟨#[120, 123]⟩ ++ A : ByteArray).size + (⟨#[44]⟩ : ByteArray).size := by rw [ba_size]; omega
  have g3 : ¬ 9223372036854775807 < ((⟨#[120, 123]⟩ ++ A) ++ ⟨#[44]⟩ : ByteArray).size + B.size := by rw [ba_size, ba_size]; omega
  have g4 : ¬ 9223372036854775807 < (((⟨#[120, 123]⟩ ++ A) ++ ⟨#[44]⟩) ++ B : ByteArray).size + (⟨#[125]⟩ : ByteArray).size := by rw [ba_size, ba_size, ba_size]; omega
  have g5 : ¬ 9223372036854775807 < (⟨#[120, 123]⟩ ++ A : ByteArray).size + (⟨#[44, 125]⟩ : ByteArray).size := by rw [ba_size]; omega
  have hsz : (cText A B).size ≤ 200 := by unfold cText; rw [ba_size, ba_size, ba_size, ba_size]; omega
  have HP := Lib.hid fun w => parse_no hpt hsz w
  unfold cText at HP
  clear hM hpt hsz hA hB k1 k2 k3 k4 s1 s2
  have b1 : decide (m ≤ 50) = false := decide_eq_false c1
  go_enter Tryd.func6, Tryd.ntmps6
  go_wp2_with (first
    | (go_at_call 8; (with_reducible refine HA.out.mono ?_); rintro e w1 ⟨rfl, hb⟩; have HB1 := Lib.hid hb; clear hb)
    | (go_at_call 19; (with_reducible refine (HT1.out _).mono ?_); rintro e w2 ⟨rfl, hb⟩; have HB2 := Lib.hid hb; clear hb)
    | (go_at_call 19; (with_reducible refine (HT2.out _).mono ?_); rintro e w3 ⟨rfl, hb⟩; have HB3 := Lib.hid hb; clear hb)
    | (go_at_call 9; (with_reducible refine (HP.out _).mono ?_); rintro e w6 ⟨rfl, hb⟩; have hF := want_frame hb; have H6 := Lib.hid hF; clear hb hF; simp only [zeroNV, NV.val])
    | (go_at_call 11; (with_reducible refine (rsame_any 1 zeroN (Nat.le_refl _) zeroN _ _ _ _ _ (node_leaf (fun _ => True) _ 0) (node_leaf (fun _ => True) _ 0) (by decide) (by decide)).mono ?_); rintro e w7 ⟨rfl, hb⟩; rw [Wood.same_refl]; have H7 := Lib.hid hb; clear hb))
  go_ret
  refine ⟨rfl, ?_⟩
  have h3 : Below w.heap.size w w3 := HB1.out.trans ((HB2.out.mono HB1.out.size).trans (HB3.out.mono (Nat.le_trans HB1.out.size HB2.out.size)))
  exact h3.trans ((H6.out.2.2.2.2.trans (((Below.refl _ _).alloc (Nat.le_refl _) _).mono H6.out.2.2.2.2.size |>.trans (H7.out.mono (Nat.le_trans H6.out.2.2.2.2.size (by simp))))).mono h3.size)

set_option maxHeartbeats 4000000 in
theorem counts_c4 (n m : Int) (w : World) (hM : Pow w) (n0 : ¬ n < 0) (n1 : ¬ 120 < n) (m0 : ¬ m < 0) (m1 : ¬ 120 < m) (c0 : n ≤ 50) (c1 : m ≤ 50) (c2 : ¬ n ≤ m) :
    Calls Tryd.prog 6 #[.int .i64 n, .int .i64 m, .bool false] w fun e w' => e = .returned (.bool true) ∧ Below w.heap.size w w' := by
  have HA := Lib.hid (awake_any w hM)
  have HT1 := Lib.hid fun w => two_any n (by omega) (by omega) w
  have HT2 := Lib.hid fun w => two_any m (by omega) (by omega) w
  have s1 := two_size n
  have s2 := two_size m
  have hpt : parseT (cText (strOfNums (twoL n)) (strOfNums (twoL m))) = none := by rw [cText_tree (by omega) (by omega) (by omega) (by omega)]; exact if_neg (by omega)
  obtain ⟨A, hA⟩ : ∃ A, A = strOfNums (twoL n) := ⟨_, rfl⟩
  obtain ⟨B, hB⟩ : ∃ B, B = strOfNums (twoL m) := ⟨_, rfl⟩
  rw [← hA] at HT1 s1
  rw [← hB] at HT2 s2
  rw [← hA, ← hB] at hpt
  have k2 : (⟨#[120, 123]⟩ : ByteArray).size = 2 := rfl
  have k1 : (⟨#[44]⟩ : ByteArray).size = 1 := rfl
  have k3 : (⟨#[125]⟩ : ByteArray).size = 1 := rfl
  have k4 : (⟨#[44, 125]⟩ : ByteArray).size = 2 := rfl
  have g1 : ¬ 9223372036854775807 < (⟨#[120, 123]⟩ : ByteArray).size + A.size := by omega
  have g2 : ¬ 9223372036854775807 < (⟨#[120, 123]⟩ ++ A : ByteArray).size + (⟨#[44]⟩ : ByteArray).size := by rw [ba_size]; omega
  have g3 : ¬ 9223372036854775807 < ((⟨#[120, 123]⟩ ++ A) ++ ⟨#[44]⟩ : ByteArray).size + B.size := by rw [ba_size, ba_size]; omega
  have g4 : ¬ 9223372036854775807 < (((⟨#[120, 123]⟩ ++ A) ++ ⟨#[44]⟩) ++ B : ByteArray).size + (⟨#[125]⟩ : ByteArray).size := by rw [ba_size, ba_size, ba_size]; omega
  have g5 : ¬ 9223372036854775807 < (⟨#[120, 123]⟩ ++ A : ByteArray).size + (⟨#[44, 125]⟩ : ByteArray).size := by rw [ba_size]; omega
  have hsz : (cText A B).size ≤ 200 := by unfold cText; rw [ba_size, ba_size, ba_size, ba_size]; omega
  have HP := Lib.hid fun w => parse_no hpt hsz w
  unfold cText at HP
  clear hM hpt hsz hA hB k1 k2 k3 k4 s1 s2
  have b2 : decide (n ≤ m) = false := decide_eq_false c2
  go_enter Tryd.func6, Tryd.ntmps6
  go_wp2_with (first
    | (go_at_call 8; (with_reducible refine HA.out.mono ?_); rintro e w1 ⟨rfl, hb⟩; have HB1 := Lib.hid hb; clear hb)
    | (go_at_call 19; (with_reducible refine (HT1.out _).mono ?_); rintro e w2 ⟨rfl, hb⟩; have HB2 := Lib.hid hb; clear hb)
    | (go_at_call 19; (with_reducible refine (HT2.out _).mono ?_); rintro e w3 ⟨rfl, hb⟩; have HB3 := Lib.hid hb; clear hb)
    | (go_at_call 9; (with_reducible refine (HP.out _).mono ?_); rintro e w6 ⟨rfl, hb⟩; have hF := want_frame hb; have H6 := Lib.hid hF; clear hb hF; simp only [zeroNV, NV.val])
    | (go_at_call 11; (with_reducible refine (rsame_any 1 zeroN (Nat.le_refl _) zeroN _ _ _ _ _ (node_leaf (fun _ => True) _ 0) (node_leaf (fun _ => True) _ 0) (by decide) (by decide)).mono ?_); rintro e w7 ⟨rfl, hb⟩; rw [Wood.same_refl]; have H7 := Lib.hid hb; clear hb))
  go_ret
  refine ⟨rfl, ?_⟩
  have h3 : Below w.heap.size w w3 := HB1.out.trans ((HB2.out.mono HB1.out.size).trans (HB3.out.mono (Nat.le_trans HB1.out.size HB2.out.size)))
  exact h3.trans ((H6.out.2.2.2.2.trans (((Below.refl _ _).alloc (Nat.le_refl _) _).mono H6.out.2.2.2.2.size |>.trans (H7.out.mono (Nat.le_trans H6.out.2.2.2.2.size (by simp))))).mono h3.size)
end Go.Proofs.YtajnedkjmgjjbaaDoor
/- ParseCounts: counts without end. -/
namespace Go.Proofs.YtajnedkjmgjjbaaDoor
open Go Go.RowKit
set_option linter.unusedVariables false
set_option maxRecDepth 20000
theorem open_box {w3 w2 : World} {n m : Int} (hb : Below (w3.alloc (.cells #[.int .i64 6, .slice none 0 0, .int .i64 n, .int .i64 m, .slice none 0 0] 26)).heap.size (w3.alloc (.cells #[.int .i64 6, .slice none 0 0, .int .i64 n, .int .i64 m, .slice none 0 0] 26)) w2) : w2.heap[w3.heap.size]? = some (.cells #[.int .i64 6, .slice none 0 0, .int .i64 n, .int .i64 m, .slice none 0 0] 26 (0, 0)) ∧ w3.heap.size < w2.heap.size ∧ (w2.setCell ⟨w3.heap.size, 3, none⟩ (.int .i64 (-1))).heap[w3.heap.size]? = some (.cells #[.int .i64 6, .slice none 0 0, .int .i64 n, .int .i64 (-1), .slice none 0 0] 26 (0, 0)) ∧ ∀ o1 o2, (((w2.setCell ⟨w3.heap.size, 3, none⟩ (.int .i64 (-1))).alloc o1).alloc o2).heap[w3.heap.size]? = some (.cells #[.int .i64 6, .slice none 0 0, .int .i64 n, .int .i64 (-1), .slice none 0 0] 26 (0, 0)) := by
  have h1 : w2.heap[w3.heap.size]? = _ := (hb.block w3.heap.size (by simp)).trans (heap_alloc_new w3 (.cells #[.int .i64 6, .slice none 0 0, .int .i64 n, .int .i64 m, .slice none 0 0] 26))
  have hlt := (Array.getElem?_eq_some_iff.1 h1).1
  have h3 : (w2.setCell ⟨w3.heap.size, 3, none⟩ (.int .i64 (-1))).heap[w3.heap.size]? = some (.cells #[.int .i64 6, .slice none 0 0, .int .i64 n, .int .i64 (-1), .slice none 0 0] 26 (0, 0)) := heap_setCell_same w2 w3.heap.size 3 _ _ _ h1
  exact ⟨h1, hlt, h3, fun o1 o2 => (Below.heap_alloc _ _ _ (by simp; omega)).trans ((Below.heap_alloc _ _ _ (by simp; omega)).trans h3)⟩
theorem open_frame {w3 w2 w6 : World} {n m : Int} (hb2 : Below (w3.alloc (.cells #[.int .i64 6, .slice none 0 0, .int .i64 n, .int .i64 m, .slice none 0 0] 26)).heap.size (w3.alloc (.cells #[.int .i64 6, .slice none 0 0, .int .i64 n, .int .i64 m, .slice none 0 0] 26)) w2) (hb : Below (((((w2.setCell ⟨w3.heap.size, 3, none⟩ (.int .i64 (-1)))).alloc (.cells #[.int .i64 120, .int .i64 120] 42)).alloc (.cells #[.int .i64 1, .slice (some ⟨w2.heap.size, 0, none⟩) 1 1, .int .i64 0, .int .i64 0, .slice none 0 0] 26)).setCell ⟨w3.heap.size, 4, none⟩ (.slice (some ⟨w2.heap.size + 1, 0, none⟩) 1 1)).heap.size (((((w2.setCell ⟨w3.heap.size, 3, none⟩ (.int .i64 (-1)))).alloc (.cells #[.int .i64 120, .int .i64 120] 42)).alloc (.cells #[.int .i64 1, .slice (some ⟨w2.heap.size, 0, none⟩) 1 1, .int .i64 0, .int .i64 0, .slice none 0 0] 26)).setCell ⟨w3.heap.size, 4, none⟩ (.slice (some ⟨w2.heap.size + 1, 0, none⟩) 1 1)) w6) :
    w6.heap[w3.heap.size]? = some (.cells #[.int .i64 6, .slice none 0 0, .int .i64 n, .int .i64 (-1), .slice (some ⟨w2.heap.size + 1, 0, none⟩) 1 1] 26 (0, 0)) ∧ w6.heap[w2.heap.size]? = some (.cells #[.int .i64 120, .int .i64 120] 42 (0, 0)) ∧
      w6.heap[w2.heap.size + 1]? = some (.cells #[.int .i64 1, .slice (some ⟨w2.heap.size, 0, none⟩) 1 1, .int .i64 0, .int .i64 0, .slice none 0 0] 26 (0, 0)) ∧ w3.heap.size < w6.heap.size ∧ Below w3.heap.size w3 w6 := by
  obtain ⟨h1, hlt, h3, h4⟩ := open_box hb2
  have s3 : (((((w2.setCell ⟨w3.heap.size, 3, none⟩ (.int .i64 (-1)))).alloc (.cells #[.int .i64 120, .int .i64 120] 42)).alloc (.cells #[.int .i64 1, .slice (some ⟨w2.heap.size, 0, none⟩) 1 1, .int .i64 0, .int .i64 0, .slice none 0 0] 26)).setCell ⟨w3.heap.size, 4, none⟩ (.slice (some ⟨w2.heap.size + 1, 0, none⟩) 1 1)).heap.size = w2.heap.size + 2 := by simp
  have hs := hb.size
  have sx : (w2.setCell ⟨w3.heap.size, 3, none⟩ (.int .i64 (-1))).heap.size = w2.heap.size := by simp
  have hne : ∀ k, k ≠ w3.heap.size → (((((w2.setCell ⟨w3.heap.size, 3, none⟩ (.int .i64 (-1)))).alloc (.cells #[.int .i64 120, .int .i64 120] 42)).alloc (.cells #[.int .i64 1, .slice (some ⟨w2.heap.size, 0, none⟩) 1 1, .int .i64 0, .int .i64 0, .slice none 0 0] 26)).setCell ⟨w3.heap.size, 4, none⟩ (.slice (some ⟨w2.heap.size + 1, 0, none⟩) 1 1)).heap[k]? = ((((w2.setCell ⟨w3.heap.size, 3, none⟩ (.int .i64 (-1)))).alloc (.cells #[.int .i64 120, .int .i64 120] 42)).alloc (.cells #[.int .i64 1, .slice (some ⟨w2.heap.size, 0, none⟩) 1 1, .int .i64 0, .int .i64 0, .slice none 0 0] 26)).heap[k]? := fun k hk => Below.heap_setCell _ _ _ _ hk
  refine ⟨(hb.block _ (by omega)).trans (heap_setCell_same _ w3.heap.size 4 _ _ _ (h4 _ _)), (hb.block _ (by omega)).trans ((hne _ (by omega)).trans ((Below.heap_alloc _ _ _ (by simp)).trans (at_new _ _ (by simp)))), (hb.block _ (by omega)).trans ((hne _ (by omega)).trans (at_new _ _ (by simp))), by omega, ?_⟩
  have b1 : Below w3.heap.size w3 w2 := ((Below.refl _ _).alloc (Nat.le_refl _) _).trans (hb2.mono (by simp))
  exact ((((b1.setCell (p := ⟨w3.heap.size, 3, none⟩) (Nat.le_refl _) _).alloc (by simp; omega) _).alloc (by simp; omega) _).setCell (p := ⟨w3.heap.size, 4, none⟩) (Nat.le_refl _) _).trans (hb.mono (by omega))

set_option maxHeartbeats 4000000 in
theorem counts_o1 (n m : Int) (w : World) (hM : Pow w) (n0 : ¬ n < 0) (n1 : ¬ 120 < n) (m0 : ¬ m < 0) (m1 : ¬ 120 < m) (c0 : n ≤ 50) (c1 : m ≤ 50) (c2 : n ≤ m) :
    Calls Tryd.prog 6 #[.int .i64 n, .int .i64 m, .bool true] w fun e w' => e = .returned (.bool true) ∧ Below w.heap.size w w' := by
  have HA := Lib.hid (awake_any w hM)
  have HT1 := Lib.hid fun w => two_any n (by omega) (by omega) w
  have HT2 := Lib.hid fun w => two_any m (by omega) (by omega) w
  have s1 := two_size n
  have s2 := two_size m
  have hpt : parseT (oText (strOfNums (twoL n))) = some (countT n (-1)) := by rw [oText_tree (by omega) (by omega)]; exact if_pos ((by omega))
  obtain ⟨A, hA⟩ : ∃ A, A = strOfNums (twoL n) := ⟨_, rfl⟩
  obtain ⟨B, hB⟩ : ∃ B, B = strOfNums (twoL m) := ⟨_, rfl⟩
  rw [← hA] at HT1 s1
  rw [← hB] at HT2 s2
  rw [← hA] at hpt
  have k2 : (⟨#[120, 123]⟩ : ByteArray).size = 2 := rfl
  have k1 : (⟨#[44]⟩ : ByteArray).size = 1 := rfl
  have k3 : (⟨#[125]⟩ : ByteArray).size = 1 := rfl
  have k4 : (⟨#[44, 125]⟩ : ByteArray).size = 2 := rfl
  have g1 : ¬ 9223372036854775807 < (⟨#[120, 123]⟩ : ByteArray).size + A.size := by omega
  have g2 : ¬ 9223372036854775807 < (⟨#[120, 123]⟩ ++ A : ByteArray).size + (⟨#[44]⟩ : ByteArray).size := by rw [ba_size]; omega
  have g3 : ¬ 9223372036854775807 < ((⟨#[120, 123]⟩ ++ A) ++ ⟨#[44]⟩ : ByteArray).size + B.size := by rw [ba_size, ba_size]; omega
  have g4 : ¬ 9223372036854775807 < (((⟨#[120, 123]⟩ ++ A) ++ ⟨#[44]⟩) ++ B : ByteArray).size + (⟨#[125]⟩ : ByteArray).size := by rw [ba_size, ba_size, ba_size]; omega
  have g5 : ¬ 9223372036854775807 < (⟨#[120, 123]⟩ ++ A : ByteArray).size + (⟨#[44, 125]⟩ : ByteArray).size := by rw [ba_size]; omega
  have hsz : (oText A).size ≤ 200 := by unfold oText; rw [ba_size, ba_size]; omega
  have HP := Lib.hid fun w => parse_some hpt hsz w
  unfold oText at HP
  clear hM hpt hsz hA hB k1 k2 k3 k4 s1 s2
  go_enter Tryd.func6, Tryd.ntmps6
  go_wp2_with (first
    | (go_at_call 8; (with_reducible refine HA.out.mono ?_); rintro e w1 ⟨rfl, hb⟩; have HB1 := Lib.hid hb; clear hb)
    | (go_at_call 19; (with_reducible refine (HT2.out _).mono ?_); rintro e w3 ⟨rfl, hb⟩; have HB3 := Lib.hid hb; clear hb)
    | (go_at_call 19; (with_reducible refine (HT1.out _).mono ?_); rintro e w2 ⟨rfl, hb⟩; (first | (have hq := HB3.out; have hO := open_box hb; obtain ⟨p0, p1, p2, p3, p4, pf⟩ := box_facts hO.1; have m4 := fun o1 o2 => (box_facts (hO.2.2.2 o1 o2)).2.2.2.2.1; have mf := fun o1 o2 => (box_facts (hO.2.2.2 o1 o2)).2.2.2.2.2; have HB4 := Lib.hid hb; clear hb hO hq) | (have HB2 := Lib.hid hb; clear hb)))
    | (go_at_call 9; (with_reducible refine (HP.out _).mono ?_); rintro e w6 ⟨x, rfl, hN, hb⟩; have hF := open_frame HB4.out hb; obtain ⟨p0, p1, p2, p3, p4, _⟩ := box_facts hF.1; have up := fun (j : Nat) (v : Value) (h : w6.cell? ⟨w3.heap.size, j, none⟩ = some v) => (((Below.refl w6.heap.size w6).alloc (Nat.le_refl _) (.cells #[.int .i64 x.op, .slice x.A x.ns x.cs, .int .i64 x.mn, .int .i64 x.mx, .slice x.D x.nk x.ck] 26)).cell (p := ⟨w3.heap.size, j, none⟩) hF.2.2.2.1).trans h; have d0 := up _ _ p0; have d1 := up _ _ p1; have d2 := up _ _ p2; have d3 := up _ _ p3; have d4 := up _ _ p4; have H6 := Lib.hid (And.intro hN hF); clear hN hb hF up; simp only [NV.val])
    | (go_at_call 11; (with_reducible refine (rsame_any 3 (countT n (-1)) (Nat.le_of_eq (heavy_count _ _)) (countT n (-1)) _ _ _ _ _ ((H6.out.1.below ((Below.refl _ _).alloc (Nat.le_refl _) (.cells #[.int .i64 x.op, .slice x.A x.ns x.cs, .int .i64 x.mn, .int .i64 x.mx, .slice x.D x.nk x.ck] 26))).one') ((want_node H6.out.2.2.1 H6.out.2.2.2.1).below ((Below.refl _ _).alloc (Nat.le_refl _) (.cells #[.int .i64 x.op, .slice x.A x.ns x.cs, .int .i64 x.mn, .int .i64 x.mx, .slice x.D x.nk x.ck] 26))) (by rw [heavy_count]; decide) (by rw [heavy_count]; decide)).mono ?_); rintro e w7 ⟨rfl, hb⟩; rw [Wood.same_refl]; have H7 := Lib.hid hb; clear hb))
  go_ret
  refine ⟨rfl, ?_⟩
  have h3 : Below w.heap.size w w3 := HB1.out.trans ((HB2.out.mono HB1.out.size).trans (HB3.out.mono (Nat.le_trans HB1.out.size HB2.out.size)))
  exact h3.trans ((H6.out.2.2.2.2.2.trans (((Below.refl _ _).alloc (Nat.le_refl _) _).mono H6.out.2.2.2.2.2.size |>.trans (H7.out.mono (Nat.le_trans H6.out.2.2.2.2.2.size (by simp))))).mono h3.size)

set_option maxHeartbeats 4000000 in
theorem counts_o2 (n m : Int) (w : World) (hM : Pow w) (n0 : ¬ n < 0) (n1 : ¬ 120 < n) (m0 : ¬ m < 0) (m1 : ¬ 120 < m) (c0 : ¬ n ≤ 50) :
    Calls Tryd.prog 6 #[.int .i64 n, .int .i64 m, .bool true] w fun e w' => e = .returned (.bool true) ∧ Below w.heap.size w w' := by
  have HA := Lib.hid (awake_any w hM)
  have HT1 := Lib.hid fun w => two_any n (by omega) (by omega) w
  have HT2 := Lib.hid fun w => two_any m (by omega) (by omega) w
  have s1 := two_size n
  have s2 := two_size m
  have hpt : parseT (oText (strOfNums (twoL n))) = none := by rw [oText_tree (by omega) (by omega)]; exact if_neg (by omega)
  obtain ⟨A, hA⟩ : ∃ A, A = strOfNums (twoL n) := ⟨_, rfl⟩
  obtain ⟨B, hB⟩ : ∃ B, B = strOfNums (twoL m) := ⟨_, rfl⟩
  rw [← hA] at HT1 s1
  rw [← hB] at HT2 s2
  rw [← hA] at hpt
  have k2 : (⟨#[120, 123]⟩ : ByteArray).size = 2 := rfl
  have k1 : (⟨#[44]⟩ : ByteArray).size = 1 := rfl
  have k3 : (⟨#[125]⟩ : ByteArray).size = 1 := rfl
  have k4 : (⟨#[44, 125]⟩ : ByteArray).size = 2 := rfl
  have g1 : ¬ 9223372036854775807 < (⟨#[120, 123]⟩ : ByteArray).size + A.size := by omega
  have g2 : ¬ 9223372036854775807 < (⟨#[120, 123]⟩ ++ A : ByteArray).size + (⟨#[44]⟩ : ByteArray).size := by rw [ba_size]; omega
  have g3 : ¬ 9223372036854775807 < ((⟨#[120, 123]⟩ ++ A) ++ ⟨#[44]⟩ : ByteArray).size + B.size := by rw [ba_size, ba_size]; omega
  have g4 : ¬ 9223372036854775807 < (((⟨#[120, 123]⟩ ++ A) ++ ⟨#[44]⟩) ++ B : ByteArray).size + (⟨#[125]⟩ : ByteArray).size := by rw [ba_size, ba_size, ba_size]; omega
  have g5 : ¬ 9223372036854775807 < (⟨#[120, 123]⟩ ++ A : ByteArray).size + (⟨#[44, 125]⟩ : ByteArray).size := by rw [ba_size]; omega
  have hsz : (oText A).size ≤ 200 := by unfold oText; rw [ba_size, ba_size]; omega
  have HP := Lib.hid fun w => parse_no hpt hsz w
  unfold oText at HP
  clear hM hpt hsz hA hB k1 k2 k3 k4 s1 s2
  have b0 : decide (n ≤ 50) = false := decide_eq_false c0
  go_enter Tryd.func6, Tryd.ntmps6
  go_wp2_with (first
    | (go_at_call 8; (with_reducible refine HA.out.mono ?_); rintro e w1 ⟨rfl, hb⟩; have HB1 := Lib.hid hb; clear hb)
    | (go_at_call 19; (with_reducible refine (HT2.out _).mono ?_); rintro e w3 ⟨rfl, hb⟩; have HB3 := Lib.hid hb; clear hb)
    | (go_at_call 19; (with_reducible refine (HT1.out _).mono ?_); rintro e w2 ⟨rfl, hb⟩; (first | (have hq := HB3.out; have hO := open_box hb; obtain ⟨p0, p1, p2, p3, p4, pf⟩ := box_facts hO.1; have m4 := fun o1 o2 => (box_facts (hO.2.2.2 o1 o2)).2.2.2.2.1; have mf := fun o1 o2 => (box_facts (hO.2.2.2 o1 o2)).2.2.2.2.2; have HB4 := Lib.hid hb; clear hb hO hq) | (have HB2 := Lib.hid hb; clear hb)))
    | (go_at_call 9; (with_reducible refine (HP.out _).mono ?_); rintro e w6 ⟨rfl, hb⟩; have hF := open_frame HB4.out hb; have H6 := Lib.hid hF; clear hb hF; simp only [zeroNV, NV.val])
    | (go_at_call 11; (with_reducible refine (rsame_any 1 zeroN (Nat.le_refl _) zeroN _ _ _ _ _ (node_leaf (fun _ => True) _ 0) (node_leaf (fun _ => True) _ 0) (by decide) (by decide)).mono ?_); rintro e w7 ⟨rfl, hb⟩; rw [Wood.same_refl]; have H7 := Lib.hid hb; clear hb))
  go_ret
  refine ⟨rfl, ?_⟩
  have h3 : Below w.heap.size w w3 := HB1.out.trans ((HB2.out.mono HB1.out.size).trans (HB3.out.mono (Nat.le_trans HB1.out.size HB2.out.size)))
  exact h3.trans ((H6.out.2.2.2.2.trans (((Below.refl _ _).alloc (Nat.le_refl _) _).mono H6.out.2.2.2.2.size |>.trans (H7.out.mono (Nat.le_trans H6.out.2.2.2.2.size (by simp))))).mono h3.size)

set_option maxHeartbeats 4000000 in
theorem counts_o3 (n m : Int) (w : World) (hM : Pow w) (n0 : ¬ n < 0) (n1 : ¬ 120 < n) (m0 : ¬ m < 0) (m1 : ¬ 120 < m) (c0 : n ≤ 50) (c1 : ¬ m ≤ 50) :
    Calls Tryd.prog 6 #[.int .i64 n, .int .i64 m, .bool true] w fun e w' => e = .returned (.bool true) ∧ Below w.heap.size w w' := by
  have HA := Lib.hid (awake_any w hM)
  have HT1 := Lib.hid fun w => two_any n (by omega) (by omega) w
  have HT2 := Lib.hid fun w => two_any m (by omega) (by omega) w
  have s1 := two_size n
  have s2 := two_size m
  have hpt : parseT (oText (strOfNums (twoL n))) = some (countT n (-1)) := by rw [oText_tree (by omega) (by omega)]; exact if_pos ((by omega))
  obtain ⟨A, hA⟩ : ∃ A, A = strOfNums (twoL n) := ⟨_, rfl⟩
  obtain ⟨B, hB⟩ : ∃ B, B = strOfNums (twoL m) := ⟨_, rfl⟩
  rw [← hA] at HT1 s1
  rw [← hB] at HT2 s2
  rw [← hA] at hpt
  have k2 : (⟨#[120, 123]⟩ : ByteArray).size = 2 := rfl
  have k1 : (⟨#[44]⟩ : ByteArray).size = 1 := rfl
  have k3 : (⟨#[125]⟩ : ByteArray).size = 1 := rfl
  have k4 : (⟨#[44, 125]⟩ : ByteArray).size = 2 := rfl
  have g1 : ¬ 9223372036854775807 < (⟨#[120, 123]⟩ : ByteArray).size + A.size := by omega
  have g2 : ¬ 9223372036854775807 < (⟨#[120, 123]⟩ ++ A : ByteArray).size + (⟨#[44]⟩ : ByteArray).size := by rw [ba_size]; omega
  have g3 : ¬ 9223372036854775807 < ((⟨#[120, 123]⟩ ++ A) ++ ⟨#[44]⟩ : ByteArray).size + B.size := by rw [ba_size, ba_size]; omega
  have g4 : ¬ 9223372036854775807 < (((⟨#[120, 123]⟩ ++ A) ++ ⟨#[44]⟩) ++ B : ByteArray).size + (⟨#[125]⟩ : ByteArray).size := by rw [ba_size, ba_size, ba_size]; omega
  have g5 : ¬ 9223372036854775807 < (⟨#[120, 123]⟩ ++ A : ByteArray).size + (⟨#[44, 125]⟩ : ByteArray).size := by rw [ba_size]; omega
  have hsz : (oText A).size ≤ 200 := by unfold oText; rw [ba_size, ba_size]; omega
  have HP := Lib.hid fun w => parse_some hpt hsz w
  unfold oText at HP
  clear hM hpt hsz hA hB k1 k2 k3 k4 s1 s2
  have b1 : decide (m ≤ 50) = false := decide_eq_false c1
  go_enter Tryd.func6, Tryd.ntmps6
  go_wp2_with (first
    | (go_at_call 8; (with_reducible refine HA.out.mono ?_); rintro e w1 ⟨rfl, hb⟩; have HB1 := Lib.hid hb; clear hb)
    | (go_at_call 19; (with_reducible refine (HT2.out _).mono ?_); rintro e w3 ⟨rfl, hb⟩; have HB3 := Lib.hid hb; clear hb)
    | (go_at_call 19; (with_reducible refine (HT1.out _).mono ?_); rintro e w2 ⟨rfl, hb⟩; (first | (have hq := HB3.out; have hO := open_box hb; obtain ⟨p0, p1, p2, p3, p4, pf⟩ := box_facts hO.1; have m4 := fun o1 o2 => (box_facts (hO.2.2.2 o1 o2)).2.2.2.2.1; have mf := fun o1 o2 => (box_facts (hO.2.2.2 o1 o2)).2.2.2.2.2; have HB4 := Lib.hid hb; clear hb hO hq) | (have HB2 := Lib.hid hb; clear hb)))
    | (go_at_call 9; (with_reducible refine (HP.out _).mono ?_); rintro e w6 ⟨x, rfl, hN, hb⟩; have hF := open_frame HB4.out hb; obtain ⟨p0, p1, p2, p3, p4, _⟩ := box_facts hF.1; have up := fun (j : Nat) (v : Value) (h : w6.cell? ⟨w3.heap.size, j, none⟩ = some v) => (((Below.refl w6.heap.size w6).alloc (Nat.le_refl _) (.cells #[.int .i64 x.op, .slice x.A x.ns x.cs, .int .i64 x.mn, .int .i64 x.mx, .slice x.D x.nk x.ck] 26)).cell (p := ⟨w3.heap.size, j, none⟩) hF.2.2.2.1).trans h; have d0 := up _ _ p0; have d1 := up _ _ p1; have d2 := up _ _ p2; have d3 := up _ _ p3; have d4 := up _ _ p4; have H6 := Lib.hid (And.intro hN hF); clear hN hb hF up; simp only [NV.val])
    | (go_at_call 11; (with_reducible refine (rsame_any 3 (countT n (-1)) (Nat.le_of_eq (heavy_count _ _)) (countT n (-1)) _ _ _ _ _ ((H6.out.1.below ((Below.refl _ _).alloc (Nat.le_refl _) (.cells #[.int .i64 x.op, .slice x.A x.ns x.cs, .int .i64 x.mn, .int .i64 x.mx, .slice x.D x.nk x.ck] 26))).one') ((want_node H6.out.2.2.1 H6.out.2.2.2.1).below ((Below.refl _ _).alloc (Nat.le_refl _) (.cells #[.int .i64 x.op, .slice x.A x.ns x.cs, .int .i64 x.mn, .int .i64 x.mx, .slice x.D x.nk x.ck] 26))) (by rw [heavy_count]; decide) (by rw [heavy_count]; decide)).mono ?_); rintro e w7 ⟨rfl, hb⟩; rw [Wood.same_refl]; have H7 := Lib.hid hb; clear hb))
  go_ret
  refine ⟨rfl, ?_⟩
  have h3 : Below w.heap.size w w3 := HB1.out.trans ((HB2.out.mono HB1.out.size).trans (HB3.out.mono (Nat.le_trans HB1.out.size HB2.out.size)))
  exact h3.trans ((H6.out.2.2.2.2.2.trans (((Below.refl _ _).alloc (Nat.le_refl _) _).mono H6.out.2.2.2.2.2.size |>.trans (H7.out.mono (Nat.le_trans H6.out.2.2.2.2.2.size (by simp))))).mono h3.size)

set_option maxHeartbeats 4000000 in
theorem counts_o4 (n m : Int) (w : World) (hM : Pow w) (n0 : ¬ n < 0) (n1 : ¬ 120 < n) (m0 : ¬ m < 0) (m1 : ¬ 120 < m) (c0 : n ≤ 50) (c1 : m ≤ 50) (c2 : ¬ n ≤ m) :
    Calls Tryd.prog 6 #[.int .i64 n, .int .i64 m, .bool true] w fun e w' => e = .returned (.bool true) ∧ Below w.heap.size w w' := by
  have HA := Lib.hid (awake_any w hM)
  have HT1 := Lib.hid fun w => two_any n (by omega) (by omega) w
  have HT2 := Lib.hid fun w => two_any m (by omega) (by omega) w
  have s1 := two_size n
  have s2 := two_size m
  have hpt : parseT (oText (strOfNums (twoL n))) = some (countT n (-1)) := by rw [oText_tree (by omega) (by omega)]; exact if_pos ((by omega))
  obtain ⟨A, hA⟩ : ∃ A, A = strOfNums (twoL n) := ⟨_, rfl⟩
  obtain ⟨B, hB⟩ : ∃ B, B = strOfNums (twoL m) := ⟨_, rfl⟩
  rw [← hA] at HT1 s1
  rw [← hB] at HT2 s2
  rw [← hA] at hpt
  have k2 : (⟨#[120, 123]⟩ : ByteArray).size = 2 := rfl
  have k1 : (⟨#[44]⟩ : ByteArray).size = 1 := rfl
  have k3 : (⟨#[125]⟩ : ByteArray).size = 1 := rfl
  have k4 : (⟨#[44, 125]⟩ : ByteArray).size = 2 := rfl
  have g1 : ¬ 9223372036854775807 < (⟨#[120, 123]⟩ : ByteArray).size + A.size := by omega
  have g2 : ¬ 9223372036854775807 < (⟨#[120, 123]⟩ ++ A : ByteArray).size + (⟨#[44]⟩ : ByteArray).size := by rw [ba_size]; omega
  have g3 : ¬ 9223372036854775807 < ((⟨#[120, 123]⟩ ++ A) ++ ⟨#[44]⟩ : ByteArray).size + B.size := by rw [ba_size, ba_size]; omega
  have g4 : ¬ 9223372036854775807 < (((⟨#[120, 123]⟩ ++ A) ++ ⟨#[44]⟩) ++ B : ByteArray).size + (⟨#[125]⟩ : ByteArray).size := by rw [ba_size, ba_size, ba_size]; omega
  have g5 : ¬ 9223372036854775807 < (⟨#[120, 123]⟩ ++ A : ByteArray).size + (⟨#[44, 125]⟩ : ByteArray).size := by rw [ba_size]; omega
  have hsz : (oText A).size ≤ 200 := by unfold oText; rw [ba_size, ba_size]; omega
  have HP := Lib.hid fun w => parse_some hpt hsz w
  unfold oText at HP
  clear hM hpt hsz hA hB k1 k2 k3 k4 s1 s2
  have b2 : decide (n ≤ m) = false := decide_eq_false c2
  go_enter Tryd.func6, Tryd.ntmps6
  go_wp2_with (first
    | (go_at_call 8; (with_reducible refine HA.out.mono ?_); rintro e w1 ⟨rfl, hb⟩; have HB1 := Lib.hid hb; clear hb)
    | (go_at_call 19; (with_reducible refine (HT2.out _).mono ?_); rintro e w3 ⟨rfl, hb⟩; have HB3 := Lib.hid hb; clear hb)
    | (go_at_call 19; (with_reducible refine (HT1.out _).mono ?_); rintro e w2 ⟨rfl, hb⟩; (first | (have hq := HB3.out; have hO := open_box hb; obtain ⟨p0, p1, p2, p3, p4, pf⟩ := box_facts hO.1; have m4 := fun o1 o2 => (box_facts (hO.2.2.2 o1 o2)).2.2.2.2.1; have mf := fun o1 o2 => (box_facts (hO.2.2.2 o1 o2)).2.2.2.2.2; have HB4 := Lib.hid hb; clear hb hO hq) | (have HB2 := Lib.hid hb; clear hb)))
    | (go_at_call 9; (with_reducible refine (HP.out _).mono ?_); rintro e w6 ⟨x, rfl, hN, hb⟩; have hF := open_frame HB4.out hb; obtain ⟨p0, p1, p2, p3, p4, _⟩ := box_facts hF.1; have up := fun (j : Nat) (v : Value) (h : w6.cell? ⟨w3.heap.size, j, none⟩ = some v) => (((Below.refl w6.heap.size w6).alloc (Nat.le_refl _) (.cells #[.int .i64 x.op, .slice x.A x.ns x.cs, .int .i64 x.mn, .int .i64 x.mx, .slice x.D x.nk x.ck] 26)).cell (p := ⟨w3.heap.size, j, none⟩) hF.2.2.2.1).trans h; have d0 := up _ _ p0; have d1 := up _ _ p1; have d2 := up _ _ p2; have d3 := up _ _ p3; have d4 := up _ _ p4; have H6 := Lib.hid (And.intro hN hF); clear hN hb hF up; simp only [NV.val])
    | (go_at_call 11; (with_reducible refine (rsame_any 3 (countT n (-1)) (Nat.le_of_eq (heavy_count _ _)) (countT n (-1)) _ _ _ _ _ ((H6.out.1.below ((Below.refl _ _).alloc (Nat.le_refl _) (.cells #[.int .i64 x.op, .slice x.A x.ns x.cs, .int .i64 x.mn, .int .i64 x.mx, .slice x.D x.nk x.ck] 26))).one') ((want_node H6.out.2.2.1 H6.out.2.2.2.1).below ((Below.refl _ _).alloc (Nat.le_refl _) (.cells #[.int .i64 x.op, .slice x.A x.ns x.cs, .int .i64 x.mn, .int .i64 x.mx, .slice x.D x.nk x.ck] 26))) (by rw [heavy_count]; decide) (by rw [heavy_count]; decide)).mono ?_); rintro e w7 ⟨rfl, hb⟩; rw [Wood.same_refl]; have H7 := Lib.hid hb; clear hb))
  go_ret
  refine ⟨rfl, ?_⟩
  have h3 : Below w.heap.size w w3 := HB1.out.trans ((HB2.out.mono HB1.out.size).trans (HB3.out.mono (Nat.le_trans HB1.out.size HB2.out.size)))
  exact h3.trans ((H6.out.2.2.2.2.2.trans (((Below.refl _ _).alloc (Nat.le_refl _) _).mono H6.out.2.2.2.2.2.size |>.trans (H7.out.mono (Nat.le_trans H6.out.2.2.2.2.2.size (by simp))))).mono h3.size)
end Go.Proofs.YtajnedkjmgjjbaaDoor
/- ParseCounts: all of it. -/
namespace Go.Proofs.YtajnedkjmgjjbaaDoor
open Go Go.RowKit
theorem counts_any (n m : Int) (op : Bool) (w : World) (hM : Pow w) : Calls Tryd.prog 6 #[.int .i64 n, .int .i64 m, .bool op] w fun e w' => e = .returned (.bool true) ∧ Below w.heap.size w w' := by
  by_cases h : n < 0 ∨ 120 < n ∨ m < 0 ∨ 120 < m
  · exact counts_out n m op w hM h
  have n0 : ¬ n < 0 := fun q => h (by omega)
  have n1 : ¬ 120 < n := fun q => h (by omega)
  have m0 : ¬ m < 0 := fun q => h (by omega)
  have m1 : ¬ 120 < m := fun q => h (by omega)
  by_cases c0 : n ≤ 50
  · by_cases c1 : m ≤ 50
    · by_cases c2 : n ≤ m
      · cases op
        · exact counts_c1 n m w hM n0 n1 m0 m1 c0 c1 c2
        · exact counts_o1 n m w hM n0 n1 m0 m1 c0 c1 c2
      · cases op
        · exact counts_c4 n m w hM n0 n1 m0 m1 c0 c1 c2
        · exact counts_o4 n m w hM n0 n1 m0 m1 c0 c1 c2
    · cases op
      · exact counts_c3 n m w hM n0 n1 m0 m1 c0 c1
      · exact counts_o3 n m w hM n0 n1 m0 m1 c0 c1
  · cases op
    · exact counts_c2 n m w hM n0 n1 m0 m1 c0
    · exact counts_o2 n m w hM n0 n1 m0 m1 c0
end Go.Proofs.YtajnedkjmgjjbaaDoor
