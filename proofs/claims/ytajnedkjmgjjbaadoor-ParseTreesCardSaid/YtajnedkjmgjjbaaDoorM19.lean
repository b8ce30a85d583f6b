/- Counts: the text of one, and what it is read as. -/
import Derived.Test.YtajnedkjmgjjbaaDoorM03
import Derived.Test.YtajnedkjmgjjbaaDoorM04
import Derived.Test.YtajnedkjmgjjbaaDoorM05
import Derived.Test.YtajnedkjmgjjbaaDoorM16
import Derived.Test.YtajnedkjmgjjbaaDoorM18
import Derived.BigQuiet
import Derived.Test.YtajnedkjmgjjbaaDoorRows
import Derived.Lib.LaidTab
import Derived.Lib.AppendIntMem
import Derived.OpenShut
import Derived.Stop.Joined
import Derived.LaidMore
import Derived.MakeChecks
import Derived.ProofKit
import Derived.Deep.RegionHeldLaw
namespace Go.Proofs.YtajnedkjmgjjbaaDoor
open Go Go.RowKit
set_option linter.unusedVariables false
set_option maxRecDepth 20000

theorem getI_ascii {x : Int} (h0 : 0 ≤ x) (h1 : x < 128) (l : List Int) : getI (x :: l) = (x, 1) := by
  have hi : isI x = true := isI_true.2 ⟨h0, by omega, by omega⟩
  have hp : putI x = [x] := by unfold putI; rw [if_pos h1]
  have := get_put hi l
  rw [hp] at this
  exact this
/-- Octets below 128 are code points themselves. -/
theorem points_ascii : ∀ (l : List Int), (∀ x ∈ l, 0 ≤ x ∧ x < 128) → pointsL l = some l
  | [], _ => rfl
  | x :: l, h => by
    have hx := h x (by simp)
    have hz : szI x = 1 := by
      have hi : isI x = true := isI_true.2 ⟨hx.1, by omega, by omega⟩
      unfold szI; rw [hi, if_neg (by simp), if_pos hx.2]
    rw [pointsL_cons (by simp), getI_ascii hx.1 hx.2, if_pos hz.symm]
    show (pointsL ((x :: l).drop 1)).map _ = _
    rw [List.drop_one, List.tail_cons, points_ascii l fun y hy => h y (List.mem_cons_of_mem _ hy)]
    rfl
/-- A number's two digits, or three. -/
def twoL (k : Int) : List Int := if 99 < k then [49, 48 + k / 10 % 10, 48 + k % 10] else [48 + k / 10 % 10, 48 + k % 10]
theorem twoL_ascii {k : Int} (h0 : 0 ≤ k) : ∀ x ∈ twoL k, 0 ≤ x ∧ x < 128 := by
  intro x hx
  unfold twoL at hx
  split at hx <;> simp at hx <;> omega
theorem isDig_of {x : Int} (h0 : 48 ≤ x) (h1 : x ≤ 57) : isDig x = true := by unfold isDig; simp; omega
theorem isDig_not {x : Int} (h : x < 48 ∨ 57 < x) : isDig x = false := by unfold isDig; simp; omega
/-- What numL makes of a number's digits. -/
theorem numL_two {k : Int} (h0 : 0 ≤ k) (h1 : k ≤ 120) (l : List Int) : numL (twoL k ++ l) = if k ≤ 50 then some (k, l) else if k ≤ 99 then none else some (10 + k / 10 % 10, (48 + k % 10) :: l) := by
  unfold twoL
  by_cases h99 : 99 < k
  · rw [if_pos h99, if_neg (by omega), if_neg (by omega)]
    show numL (49 :: (48 + k / 10 % 10) :: (48 + k % 10) :: l) = _
    unfold numL
    dsimp only
    rw [if_pos (isDig_of (by omega) (by omega)), if_pos (isDig_of (by omega) (by omega)), if_neg (by omega)]
    congr 2
    omega
  · rw [if_neg h99]
    show numL ((48 + k / 10 % 10) :: (48 + k % 10) :: l) = _
    unfold numL
    dsimp only
    rw [if_pos (isDig_of (by omega) (by omega)), if_pos (isDig_of (by omega) (by omega))]
    by_cases h50 : k ≤ 50
    · rw [if_neg (by omega), if_pos h50]
      congr 2
      omega
    · rw [if_pos (by omega), if_neg h50, if_pos (by omega)]
/-- A count of two numbers. -/
theorem braceL_two {n m : Int} (n0 : 0 ≤ n) (n1 : n ≤ 120) (m0 : 0 ≤ m) (m1 : m ≤ 120) : braceL (twoL n ++ 44 :: (twoL m ++ [125])) = if n ≤ 50 ∧ m ≤ 50 ∧ n ≤ m then some (tokN n m, []) else none := by
  unfold braceL
  rw [numL_two n0 n1]
  by_cases hn : n ≤ 50
  · rw [if_pos hn]
    have hne : ∃ y r, twoL m ++ [125] = y :: r ∧ y ≠ 125 := by
      unfold twoL; split
      · exact ⟨_, _, rfl, by decide⟩
      · exact ⟨_, _, rfl, by omega⟩
    obtain ⟨y, r, hy, hy2⟩ := hne
    have hm := numL_two m0 m1 [125]
    rw [hy] at hm ⊢
    split
    · rename_i h; injection h with h; injection h with _ h; injection h with h _; omega
    · rename_i h; injection h with h; injection h with _ h; injection h with _ h; injection h with h _; exact absurd h hy2
    · rename_i a l' _ h
      injection h with h; injection h with h1 h; injection h with _ h
      subst h1; subst h
      rw [hm]
      by_cases hm50 : m ≤ 50
      · rw [if_pos hm50]
        show (if m < n then none else some (tokN n m, [])) = _
        by_cases hnm : n ≤ m
        · rw [if_neg (by omega), if_pos ⟨hn, hm50, hnm⟩]
        · rw [if_pos (by omega), if_neg (fun h => hnm h.2.2)]
      · rw [if_neg hm50]
        have hno : ¬ (n ≤ 50 ∧ m ≤ 50 ∧ n ≤ m) := fun h => hm50 h.2.1
        rw [if_neg hno]
        by_cases hm99 : m ≤ 99
        · rw [if_pos hm99]
        · rw [if_neg hm99]
          split
          · rename_i h; injection h with h; injection h with _ h; injection h with h _; omega
          · rfl
    · rename_i h1 h2 h3
      exact absurd rfl (h3 n (y :: r))
  · have hno : ¬ (n ≤ 50 ∧ m ≤ 50 ∧ n ≤ m) := fun h => hn h.1
    rw [if_neg hno, if_neg hn]
    by_cases hn99 : n ≤ 99
    · rw [if_pos hn99]
    · rw [if_neg hn99]
      split
      · rename_i h; injection h with h; injection h with _ h; injection h with h _; omega
      · rename_i h; injection h with h; injection h with _ h; injection h with h _; omega
      · rename_i h; injection h with h; injection h with _ h; injection h with h _; omega
      · rfl
/-- A count without end. -/
theorem braceL_open {n : Int} (n0 : 0 ≤ n) (n1 : n ≤ 120) : braceL (twoL n ++ [44, 125]) = if n ≤ 50 then some (tokN n (-1), []) else none := by
  unfold braceL
  rw [numL_two n0 n1]
  by_cases hn : n ≤ 50
  · rw [if_pos hn, if_pos hn]
    rfl
  · rw [if_neg hn, if_neg hn]
    by_cases hn99 : n ≤ 99
    · rw [if_pos hn99]
    · rw [if_neg hn99]
      split
      · rename_i h; injection h with h; injection h with _ h; injection h with h _; omega
      · rename_i h; injection h with h; injection h with _ h; injection h with h _; omega
      · rename_i h; injection h with h; injection h with _ h; injection h with h _; omega
      · rfl
def countT (n m : Int) : Wood := .cons 6 [] n m (leaf 1 [(120, 120)]) .nil
theorem treeL_count {l : List Int} : treeL (120 :: 123 :: l) = match braceL l with
    | some (t, []) => some (countT t.mn t.mx)
    | some (t, x :: r) => runL (x :: r) [] .nil (countT t.mn t.mx) false
    | none => none := by
  rw [treeL_run, runL_char (tok_plain _ (by decide)) rfl]
  rcases hb : braceL l with _ | ⟨t, r⟩
  · exact runL_none (by rw [tok_brace]; exact hb) (by simp)
  · rw [runL_count (t := t) (l' := r) (by rw [tok_brace]; exact hb) (braceL_kind hb), if_pos rfl]
    rcases r with _ | ⟨x, r⟩
    · rw [runL_nil]; rfl
    · rfl
end Go.Proofs.YtajnedkjmgjjbaaDoor
/- ParseCounts' own function: a number's digits as a text. -/
namespace Go.Proofs.YtajnedkjmgjjbaaDoor
open Go Go.RowKit
set_option linter.unusedVariables false
set_option maxRecDepth 20000

theorem strOfNums_cons49 (a b : Int) : (⟨#[49]⟩ : ByteArray) ++ strOfNums [a, b] = strOfNums [49, a, b] := by
  apply ByteArray.ext
  apply Array.toList_inj.1
  rw [ByteArray.data_append, Array.toList_append, strOfNums_data, strOfNums_data]
  rfl
set_option maxHeartbeats 2000000 in
theorem two_any (n : Int) (h0 : 0 ≤ n) (h1 : n ≤ 120) (w : World) :
    Calls Tryd.prog 19 #[.int .i64 n] w fun e w' => e = .returned (.string (strOfNums (twoL n))) ∧ Below w.heap.size w w' := by
  have hcv := strRow _ _ 2 2 _ (RowI.new .u8 w [48 + n / 10 % 10, 48 + n % 10] 5)
  have hcv : (convert 39 9 (.slice (some ⟨w.heap.size, 0, none⟩) 2 2)).run Tryd.prog (w.alloc (.cells #[.int .u8 (48 + n / 10 % 10), .int .u8 (48 + n % 10)] 5)) = .ok (.string (strOfNums [48 + n / 10 % 10, 48 + n % 10])) (w.alloc (.cells #[.int .u8 (48 + n / 10 % 10), .int .u8 (48 + n % 10)] 5)) := hcv
  by_cases h99 : 99 < n
  · have hT := Lib.hid (show twoL n = [49, 48 + n / 10 % 10, 48 + n % 10] from if_pos h99)
    go_enter Tryd.func19, Tryd.ntmps19
    go_wp2
    go_ret
    refine ⟨?_, (Below.refl _ _).alloc (Nat.le_refl _) _⟩
    rw [hT.out, ← strOfNums_cons49]
    rfl
  · have hT := Lib.hid (show twoL n = [48 + n / 10 % 10, 48 + n % 10] from if_neg h99)
    go_enter Tryd.func19, Tryd.ntmps19
    go_wp2
    go_ret
    refine ⟨?_, (Below.refl _ _).alloc (Nat.le_refl _) _⟩
    rw [hT.out]
    rfl
end Go.Proofs.YtajnedkjmgjjbaaDoor
/- The listed variables: out of the row's condition the table of powers; and a world that meets the condition. -/
namespace Go.Proofs.YtajnedkjmgjjbaaDoor
open Go Go.ChangeShapes Go.WideShapes Go.ChangeAt Go.RowKit
set_option maxRecDepth 20000

theorem gPow : Tryd.prog.globalNamed "internal/strconv.uint64pow10" = some 0 := by kernel_rfl
theorem tPow : (Tryd.prog.globals[0]?).map (·.type) = some 114 := by kernel_rfl
theorem dPow : (Rows.laid_internal_strconv_uint64pow10 : DataW Unit) = Lib.tabData .u64 Lib.pow10Tab := by kernel_rfl
/-- What the walks ask: the table of powers is laid. -/
def Pow (w : World) : Prop := Tab w.heap.size w
/-- WHAT THE CONDITION GIVES: the table of powers. -/
theorem pow_of_laid {W : World} (h : laidMetH Tryd.prog [("math/bits.deBruijn32tab", Rows.laid_math_bits_deBruijn32tab), ("math/bits.deBruijn64tab", Rows.laid_math_bits_deBruijn64tab), ("internal/strconv.uint64pow10", Rows.laid_internal_strconv_uint64pow10)] W) : Pow W := by
  rw [MakeChecks.laidMetH_plain _ _ _ (by kernel_rfl), dPow] at h
  obtain ⟨ps, hv, _⟩ := h
  obtain ⟨ps2, hv2⟩ : ∃ ps2, DataW.LaidVars Tryd.prog W [("internal/strconv.uint64pow10", (Lib.tabData .u64 Lib.pow10Tab : DataW Unit))] ps2 := by
    obtain ⟨_, _, _, _, _, q1, _, _, _, _, h1, h2⟩ := hv
    first
      | (obtain ⟨_, _, _, _, _, q2, _, _, _, _, h3, h4⟩ := h1; first | exact ⟨q2, h3⟩ | exact ⟨q2, h4⟩)
      | (obtain ⟨_, _, _, _, _, q2, _, _, _, _, h3, h4⟩ := h2; first | exact ⟨q2, h3⟩ | exact ⟨q2, h4⟩)
  obtain ⟨g', t', cs, fuel, p, q, hg', ht', hvar, hd, _, _⟩ := hv2
  obtain rfl := Option.some.inj (gPow.symm.trans hg')
  obtain rfl := Option.some.inj (tPow.symm.trans ht')
  refine Lib.tabBelow_of_tabIs ?_
  unfold Lib.TabIs
  rw [hvar, ← Lib.cells_of_tab Tryd.underlying114 Tryd.underlying75 (by kernel_rfl) (by kernel_rfl) hd]
/-- The door's own heap meets the condition: three closed facts. -/
theorem door_met (os : Os) (args : Array Value) : laidMetH Tryd.prog [("math/bits.deBruijn32tab", Rows.laid_math_bits_deBruijn32tab), ("math/bits.deBruijn64tab", Rows.laid_math_bits_deBruijn64tab), ("internal/strconv.uint64pow10", Rows.laid_internal_strconv_uint64pow10)] ((World.doorLaid Tryd.prog 400 os).forCall (fun _ _ => 0) ⟨#[], args, []⟩).memory :=
  laidMetH_of_parts3 (fuel := 8) (laidMet_of_run' 8 (by kernel_rfl) (by kernel_rfl)) (by kernel_rfl) (by kernel_rfl)
end Go.Proofs.YtajnedkjmgjjbaaDoor
/- The document's Same of lists of ranges, and of trees. -/
namespace Go.Proofs.YtajnedkjmgjjbaaDoor
open Go Go.RowKit
set_option linter.unusedVariables false
set_option maxRecDepth 20000

theorem list_same {s t : List (Int × Int)} (hl : s.length = t.length) (h : ∀ j, j < s.length → s.getD j (0, 0) = t.getD j (0, 0)) : s = t := by
  apply List.ext_getElem hl
  intro j h1 h2
  have := h j h1
  rwa [getD_in j h1, getD_in j h2] at this
theorem list_not {s t : List (Int × Int)} (j : Nat) (h1 : j < s.length) (h : s.getD j (0, 0) ≠ t.getD j (0, 0)) : (s == t) = false := by
  cases hx : s == t with
  | false => rfl
  | true => rw [eq_of_beq hx] at h; exact absurd rfl h

set_option maxHeartbeats 2000000 in
theorem rsameL_any (s t : List (Int × Int)) (A D : Option Addr) (n m c d : Nat) (W : World) (ha : RowG W A n s) (hb : RowG W D m t) (hn : n ≤ 1000000) (hm : m ≤ 1000000) :
    Calls Tryd.prog 25 #[.slice A n c, .slice D m d] W fun e w' => e = .returned (.bool (s == t)) ∧ ∃ q, w' = W.drewN q := by
  have HA := Lib.hid ha; clear ha
  have HB := Lib.hid hb; clear hb
  by_cases hnm : n = m
  · subst hnm
    go_enter Tryd.func25, Tryd.ntmps25
    go_wp2
    go_loopw [5] (fun i wr => ∃ k q : Nat, k ≤ n ∧ i = .int .i64 k ∧ wr = W.drewN q ∧ Hid (∀ j, j < k → s.getD j (0, 0) = t.getD j (0, 0))) (fun i _ => n - (intOf i).toNat)
    case atStart => exact ⟨0, 0, Nat.zero_le _, rfl, rfl, Lib.hid fun j h => by omega⟩
    case round =>
      obtain ⟨k, q, hk, rfl, rfl, HF⟩ := hrel
      by_cases hlt : k < n
      · obtain ⟨b, o, rfl, _, hc⟩ := HA.out.2 (by omega)
        obtain ⟨b', o', rfl, _, hc'⟩ := HB.out.2 (by omega)
        obtain ⟨c0, c1⟩ := hc k hlt
        obtain ⟨e0, e1⟩ := hc' k hlt
        obtain ⟨r, hr⟩ : ∃ r, r = s.getD k (0, 0) := ⟨_, rfl⟩
        obtain ⟨r', hr'⟩ : ∃ r, r = t.getD k (0, 0) := ⟨_, rfl⟩
        rw [← hr] at c0 c1
        rw [← hr'] at e0 e1
        obtain ⟨x, y⟩ := r
        obtain ⟨x', y'⟩ := r'
        have HRR := Lib.hid (And.intro hr hr')
        clear hc hc' hr hr'
        dsimp only at c0 c1 e0 e1
        by_cases hxy : x = x' ∧ y = y'
        · obtain ⟨rfl, rfl⟩ := hxy
          have HN : Hid (∀ j, j < k + 1 → s.getD j (0, 0) = t.getD j (0, 0)) := Lib.hid fun j hj => by
            rcases Nat.lt_or_ge j k with h | h
            · exact HF.out j h
            · have : j = k := by omega
              rw [this, ← HRR.out.1, ← HRR.out.2]
          go_wp2
          go_quiet (fail)
          go_wp2
          refine ⟨⟨k + 1, q + nq, by omega, by go_num, rfl, HN⟩, by simp [intOf]; omega⟩
        · have HN : Hid ((s == t) = false) := Lib.hid (list_not k (by have := HA.out.1; omega) (by
            rw [← HRR.out.1, ← HRR.out.2]
            intro h
            injection h with h1 h2
            exact hxy ⟨h1, h2⟩))
          by_cases hx : x = x'
          · subst hx
            have hy : ¬ y = y' := fun e => hxy ⟨rfl, e⟩
            have by1 : (y == y') = false := by simpa using hy
            clear hxy
            go_wp2
            go_quiet (fail)
            go_wp2
            go_ret
            rw [HN.out]
            exact ⟨rfl, q + nq, by simp⟩
          · have bx1 : (x == x') = false := by simpa using hx
            clear hxy
            go_wp2
            go_quiet (fail)
            go_wp2
            go_ret
            rw [HN.out]
            exact ⟨rfl, q + nq, by simp⟩
      · have hkn : k = n := by omega
        subst hkn
        have HE := Lib.hid (show (s == t) = true by rw [list_same (by rw [HA.out.1, HB.out.1]) (fun j hj => HF.out j (by have := HA.out.1; omega))]; exact beq_self_eq_true _)
        go_wp2
        go_ret
        rw [HE.out]
        exact ⟨rfl, _, rfl⟩
  · have HE := Lib.hid (show (s == t) = false by
      cases hx : s == t with
      | false => rfl
      | true => have h := eq_of_beq hx; exact absurd (by rw [← HA.out.1, ← HB.out.1, h]) hnm)
    have h1 : ¬ (n : Int) = (m : Int) := by omega
    have h2 : ((n : Int) != (m : Int)) = true := by simpa using h1
    go_enter Tryd.func25, Tryd.ntmps25
    go_wp2
    go_ret
    rw [HE.out]
    exact ⟨rfl, 0, rfl⟩

/-- Two nodes that a call has boxed. -/
theorem box_two (W : World) (c1 c2 : Array Value) (t : TypeId) : ∃ W2 : World, W2 = (W.alloc (.cells c1 t)).alloc (.cells c2 t) ∧ Below W.heap.size W W2 ∧ ∀ wr, Below W2.heap.size W2 wr → (∀ j, wr.cell? ⟨W.heap.size, j, none⟩ = c1[j]?) ∧ (∀ j, wr.cell? ⟨W.heap.size + 1, j, none⟩ = c2[j]?) ∧ Below W.heap.size W wr := by
  refine ⟨_, rfl, ((Below.refl _ _).alloc (Nat.le_refl _) _).alloc (by simp) _, fun wr hb => ⟨fun j => ?_, fun j => ?_, (((Below.refl _ _).alloc (Nat.le_refl _) _).alloc (by simp) _).trans (hb.mono (by simp; omega))⟩⟩
  · rw [hb.cell (p := ⟨W.heap.size, j, none⟩) (by simp; omega), cell_of_row _ W.heap.size j c1 t (0, 0) (at_up (heap_alloc_new W _) _)]
  · rw [hb.cell (p := ⟨W.heap.size + 1, j, none⟩) (by simp), cell_of_row _ (W.heap.size + 1) j c2 t (0, 0) (at_new _ _ (by simp))]

set_option maxHeartbeats 4000000 in
/-- The document's Same of trees. -/
theorem rsame_any (N : Nat) : ∀ (T : Wood), heavy T ≤ N → ∀ (U : Wood) (F G : Nat → Prop) (W : World) (v u : Value), NodeIn F W v T → NodeIn G W u U → heavy T ≤ 1000000 → heavy U ≤ 1000000 →
    Calls Tryd.prog 11 #[v, u] W fun e w' => e = .returned (.bool (T.same U)) ∧ Below W.heap.size W w' := by
  induction N with
  | zero =>
    intro T hN U F G W v u hv hu _ _
    obtain ⟨op, s, mn, mx, k, A, D, ns, cs, nk, ck, rfl, _⟩ := hv
    simp [heavy] at hN
  | succ N ih =>
    intro T hN U F G W v u hv hu hs hs'
    obtain ⟨op, s, mn, mx, k, A, D, ns, cs, nk, ck, rfl, rfl, hr, hk⟩ := hv
    obtain ⟨op', s', mn', mx', k', A', D', ns', cs', nk', ck', rfl, rfl, hr', hk'⟩ := hu
    have hsz : heavy (Wood.cons op s mn mx k .nil) = 1 + s.length + heavy k := by simp [heavy]
    have hsz' : heavy (Wood.cons op' s' mn' mx' k' .nil) = 1 + s'.length + heavy k' := by simp [heavy]
    rw [hsz] at hN hs
    rw [hsz'] at hs'
    have HSM := Lib.hid (show (Wood.cons op s mn mx k .nil).same (Wood.cons op' s' mn' mx' k' .nil) = (op == op' && (mn == mn' && (mx == mx' && (s == s' && (k.same k' && true))))) from rfl)
    obtain ⟨R, hR⟩ : ∃ R, R = (Wood.cons op s mn mx k .nil).same (Wood.cons op' s' mn' mx' k' .nil) := ⟨_, rfl⟩
    rw [← hR] at HSM ⊢
    have hnk : nk ≤ 1000000 := by have := len_heavy k; have := hk.1; omega
    have hnk' : nk' ≤ 1000000 := by have := len_heavy k'; have := hk'.1; omega
    have HK := Lib.hid (And.intro hk hk')
    have HLEN := Lib.hid (And.intro hk.1 hk'.1)
    have HL := Lib.hid fun w (h : Below W.heap.size W w) => (rsameL_any s s' A A' ns ns' cs cs' w (hr.1.below h (Nat.le_refl _)) (hr'.1.below h (Nat.le_refl _)) (by have := hr.1.1; omega) (by have := hr'.1.1; omega)).mono fun e w' q => (⟨q.1, by obtain ⟨x, hx⟩ := q.2; rw [hx]; exact below_drewN (Below.refl _ _) x⟩ : e = .returned (.bool (s == s')) ∧ Below w.heap.size w w')
    have IH := Lib.hid ih
    have HH := Lib.hid (And.intro (show heavy k ≤ N by omega) (And.intro (show heavy k ≤ 1000000 by omega) (show heavy k' ≤ 1000000 by omega)))
    clear hsz hsz' hk hk' hr hr' ih hR hN hs hs'
    obtain ⟨W2, hW2, hb2, hbox⟩ := box_two W #[.int .i64 op, .slice A ns cs, .int .i64 mn, .int .i64 mx, .slice D nk ck] #[.int .i64 op', .slice A' ns' cs', .int .i64 mn', .int .i64 mx', .slice D' nk' ck'] 26
    have HBOX := Lib.hid hbox
    have HB2 := Lib.hid hb2
    have HC4 : Hid (∀ wr, Below W2.heap.size W2 wr → wr.cell? ⟨W.heap.size, 4, none⟩ = some (.slice D nk ck) ∧ wr.cell? ⟨W.heap.size + 1, 4, none⟩ = some (.slice D' nk' ck')) := Lib.hid fun wr h => ⟨(HBOX.out wr h).1 4, (HBOX.out wr h).2.1 4⟩
    clear hbox hb2
    by_cases h1 : op = op'
    · subst h1
      by_cases h2 : mn = mn'
      · subst h2
        by_cases h3 : mx = mx'
        · subst h3
          by_cases h4 : s = s'
          · subst h4
            have HSS := Lib.hid (show (s == s) = true from beq_self_eq_true _)
            by_cases h5 : nk = nk'
            · subst h5
              have HE := Lib.hid (show R = k.same k' by rw [HSM.out]; simp)
              go_enter Tryd.func11, Tryd.ntmps11
              go_wp2_with (go_at_call 25; rw [← hW2]; refine (HL.out _ HB2.out).mono ?_; rintro e w1 ⟨rfl, hb1⟩; rw [HSS.out]; obtain ⟨e4, e4'⟩ := HC4.out w1 hb1; have HB1 := Lib.hid hb1; clear hb1)
              go_loopw [5] (fun vi wr => ∃ j : Nat, vi = .int .i64 (j : Int) ∧ j ≤ nk ∧ Hid (Below W2.heap.size W2 wr ∧ ∀ i, i < j → (k.nth i).same (k'.nth i) = true)) (fun vi _ => nk - (intOf vi).toNat)
              case atStart => exact ⟨0, rfl, Nat.zero_le _, Lib.hid ⟨HB1.out, fun i h => by omega⟩⟩
              case round =>
                obtain ⟨j, rfl, hj, HO⟩ := hrel
                obtain ⟨b4, b4'⟩ := HC4.out wr HO.out.1
                have hbW := (HBOX.out wr HO.out.1).2.2
                by_cases hlt : j < nk
                · obtain ⟨b, o, op1, s1, mn1, mx1, k1, A1, D1, ns1, cs1, nk1, ck1, rfl, hlb, _, c0, c1, c2, c3, c4, hin⟩ := (HK.out.1.below hbW).kid hlt
                  obtain ⟨b', o', op1', s1', mn1', mx1', k1', A1', D1', ns1', cs1', nk1', ck1', rfl, hlb', _, e0, e1, e2, e3, e4, hin'⟩ := (HK.out.2.below hbW).kid hlt
                  have HC := Lib.hid fun w (h : Below wr.heap.size wr w) => (IH.out (k.nth j) (Nat.le_trans (heavy_nth k j (by rw [HLEN.out.1]; exact hlt)) HH.out.1) (k'.nth j) F G w _ _ (hin.below h) (hin'.below h) (Nat.le_trans (heavy_nth k j (by rw [HLEN.out.1]; exact hlt)) HH.out.2.1) (Nat.le_trans (heavy_nth k' j (by rw [HLEN.out.2]; exact hlt)) HH.out.2.2)).mono fun e w' q => (⟨q.1, h.trans (q.2.mono h.size)⟩ : e = .returned (.bool ((k.nth j).same (k'.nth j))) ∧ Below wr.heap.size wr w')
                  have hr0 : Below wr.heap.size wr wr.drew := (Below.refl _ _).drew
                  obtain ⟨r, hr⟩ : ∃ r, r = (k.nth j).same (k'.nth j) := ⟨_, rfl⟩
                  rw [← hr] at HC
                  have HRR := Lib.hid hr
                  have k0 : ∀ w, Below wr.heap.size wr w → w.cell? ⟨b, o + j * 5, none⟩ = some (.int .i64 op1) := fun w h => (h.cell (p := ⟨b, o + j * 5, none⟩) hlb).trans c0
                  have k1 : ∀ w, Below wr.heap.size wr w → w.cell? ⟨b, o + j * 5 + 1, none⟩ = some (.slice A1 ns1 cs1) := fun w h => (h.cell (p := ⟨b, o + j * 5 + 1, none⟩) hlb).trans c1
                  have k2 : ∀ w, Below wr.heap.size wr w → w.cell? ⟨b, o + j * 5 + 2, none⟩ = some (.int .i64 mn1) := fun w h => (h.cell (p := ⟨b, o + j * 5 + 2, none⟩) hlb).trans c2
                  have k3 : ∀ w, Below wr.heap.size wr w → w.cell? ⟨b, o + j * 5 + 3, none⟩ = some (.int .i64 mx1) := fun w h => (h.cell (p := ⟨b, o + j * 5 + 3, none⟩) hlb).trans c3
                  have k4 : ∀ w, Below wr.heap.size wr w → w.cell? ⟨b, o + j * 5 + 4, none⟩ = some (.slice D1 nk1 ck1) := fun w h => (h.cell (p := ⟨b, o + j * 5 + 4, none⟩) hlb).trans c4
                  have l0 : ∀ w, Below wr.heap.size wr w → w.cell? ⟨b', o' + j * 5, none⟩ = some (.int .i64 op1') := fun w h => (h.cell (p := ⟨b', o' + j * 5, none⟩) hlb').trans e0
                  have l1 : ∀ w, Below wr.heap.size wr w → w.cell? ⟨b', o' + j * 5 + 1, none⟩ = some (.slice A1' ns1' cs1') := fun w h => (h.cell (p := ⟨b', o' + j * 5 + 1, none⟩) hlb').trans e1
                  have l2 : ∀ w, Below wr.heap.size wr w → w.cell? ⟨b', o' + j * 5 + 2, none⟩ = some (.int .i64 mn1') := fun w h => (h.cell (p := ⟨b', o' + j * 5 + 2, none⟩) hlb').trans e2
                  have l3 : ∀ w, Below wr.heap.size wr w → w.cell? ⟨b', o' + j * 5 + 3, none⟩ = some (.int .i64 mx1') := fun w h => (h.cell (p := ⟨b', o' + j * 5 + 3, none⟩) hlb').trans e3
                  have l4 : ∀ w, Below wr.heap.size wr w → w.cell? ⟨b', o' + j * 5 + 4, none⟩ = some (.slice D1' nk1' ck1') := fun w h => (h.cell (p := ⟨b', o' + j * 5 + 4, none⟩) hlb').trans e4
                  have m4 : ∀ w, Below wr.heap.size wr w → w.cell? ⟨W.heap.size, 4, none⟩ = some (.slice (some ⟨b, o, none⟩) nk ck) := fun w h => (HC4.out w (HO.out.1.trans (h.mono HO.out.1.size))).1
                  have m4' : ∀ w, Below wr.heap.size wr w → w.cell? ⟨W.heap.size + 1, 4, none⟩ = some (.slice (some ⟨b', o', none⟩) nk ck') := fun w h => (HC4.out w (HO.out.1.trans (h.mono HO.out.1.size))).2
                  clear hin hin' hr hbW c0 c1 c2 c3 c4 e0 e1 e2 e3 e4
                  go_wp2_with fail
                  go_region_held (fun w' => Below wr.heap.size wr w') (assumption) (first
                    | (go_at_call 11; (with_reducible refine (HC.out _ (by assumption)).mono ?_); rintro e w3 ⟨rfl, hb3⟩))
                  have HB3 : Hid (Below W2.heap.size W2 w3) := Lib.hid (HO.out.1.trans (Below.mono (by assumption) HO.out.1.size))
                  clear k0 k1 k2 k3 k4 l0 l1 l2 l3 l4 m4 m4' hr0
                  cases r with
                  | true =>
                    go_wp2
                    refine ⟨⟨j + 1, by go_num, by omega, Lib.hid ⟨HB3.out, fun i hi => ?_⟩⟩, by simp [intOf]; omega⟩
                    rcases Nat.lt_or_ge i j with h | h
                    · exact HO.out.2 i h
                    · rw [show i = j by omega]; exact HRR.out.symm
                  | false =>
                    have HF := Lib.hid (show R = false by
                      rw [HE.out]
                      cases hx : k.same k' with
                      | false => rfl
                      | true =>
                        have h := (Wood.same_nth k k' (by rw [HLEN.out.1, HLEN.out.2])).1 hx j (by rw [HLEN.out.1]; exact hlt)
                        rw [← HRR.out] at h
                        cases h)
                    go_wp2
                    go_ret
                    rw [HF.out]
                    exact ⟨rfl, (HBOX.out _ HB3.out).2.2⟩
                · have hjn : j = nk := by omega
                  subst hjn
                  have HF := Lib.hid (show R = true by
                    rw [HE.out, Wood.same_nth k k' (by rw [HLEN.out.1, HLEN.out.2])]
                    intro i hi
                    exact HO.out.2 i (by rw [← HLEN.out.1]; exact hi))
                  have HBW := Lib.hid hbW
                  clear hbW
                  go_wp2
                  go_ret
                  rw [HF.out]
                  exact ⟨rfl, HBW.out⟩
            · have HE := Lib.hid (show R = false by
                rw [HSM.out]
                cases hx : k.same k' with
                | false => simp
                | true => exact absurd (by rw [← HLEN.out.1, ← HLEN.out.2, (Wood.same_iff _ _).1 hx]) h5)
              have n1 : ¬ (nk : Int) = (nk' : Int) := by omega
              have n2 : ((nk : Int) != (nk' : Int)) = true := by simpa using n1
              go_enter Tryd.func11, Tryd.ntmps11
              go_wp2_with (go_at_call 25; rw [← hW2]; refine (HL.out _ HB2.out).mono ?_; rintro e w1 ⟨rfl, hb1⟩; rw [HSS.out]; obtain ⟨e4, e4'⟩ := HC4.out w1 hb1; have HB1 := Lib.hid hb1; clear hb1)
              go_ret
              rw [HE.out]
              exact ⟨rfl, (HBOX.out _ HB1.out).2.2⟩
          · have HSS := Lib.hid (show (s == s') = false by simpa using h4)
            have HE := Lib.hid (show R = false by rw [HSM.out, HSS.out]; simp)
            go_enter Tryd.func11, Tryd.ntmps11
            go_wp2_with (go_at_call 25; rw [← hW2]; refine (HL.out _ HB2.out).mono ?_; rintro e w1 ⟨rfl, hb1⟩; rw [HSS.out]; have HB1 := Lib.hid hb1; clear hb1)
            go_ret
            rw [HE.out]
            exact ⟨rfl, (HBOX.out _ HB1.out).2.2⟩
        · have HE := Lib.hid (show R = false by rw [HSM.out]; simp [h3])
          have n1 : (mx != mx') = true := by simpa using h3
          go_enter Tryd.func11, Tryd.ntmps11
          go_wp2
          go_ret
          rw [HE.out]
          exact ⟨rfl, by rw [← hW2]; exact HB2.out⟩
      · have HE := Lib.hid (show R = false by rw [HSM.out]; simp [h2])
        have n1 : (mn != mn') = true := by simpa using h2
        go_enter Tryd.func11, Tryd.ntmps11
        go_wp2
        go_ret
        rw [HE.out]
        exact ⟨rfl, by rw [← hW2]; exact HB2.out⟩
    · have HE := Lib.hid (show R = false by rw [HSM.out]; simp [h1])
      have n1 : (op != op') = true := by simpa using h1
      go_enter Tryd.func11, Tryd.ntmps11
      go_wp2
      go_ret
      rw [HE.out]
      exact ⟨rfl, by rw [← hW2]; exact HB2.out⟩
end Go.Proofs.YtajnedkjmgjjbaaDoor
