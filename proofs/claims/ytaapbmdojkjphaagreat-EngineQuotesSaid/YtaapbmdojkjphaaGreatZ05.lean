/- Texts. -/
import Derived.Test.YtaapbmdojkjphaaGreatZ03
import Derived.Test.YtaapbmdojkjphaaGreatZ04
import Derived.OwnWalk
import Derived.BigQuiet
import Derived.Deep.RegionHeldLaw
import Derived.Deep.RegionLaw
namespace Go.Proofs.YtaapbmdojkjphaaGreat
open Go Go.RowKit
set_option linter.unusedVariables false
set_option maxRecDepth 20000
set_option maxHeartbeats 1000000 in
theorem rin_any (S : ByteArray) (r : Int) (W : World) (hn : S.size ≤ 1000) :
    Calls Tryz.prog 58 #[.string S, .int .i64 r] W fun e w' => e = .returned (.bool (decide (r ∈ nums S))) ∧ W = w' := by
  have hnl := nums_length S
  have HNL := Lib.hid hnl
  clear hnl
  go_enter Tryz.func58, Tryz.ntmps58
  go_wp2
  go_loopw [5] (fun vi wr => ∃ j : Nat, vi = .int .i64 (j : Int) ∧ j ≤ S.size ∧ wr = W ∧ Hid (∀ i, i < j → (nums S).getD i 0 ≠ r)) (fun vi _ => S.size - (intOf vi).toNat)
  case atStart => exact ⟨0, rfl, Nat.zero_le _, rfl, Lib.hid fun i h => by omega⟩
  case round =>
    obtain ⟨j, rfl, hj, rfl, HO⟩ := hrel
    by_cases hlt : j < S.size
    · have hix := idx_at S j hlt
      have hby := nums_byte S ((nums S).getD j 0) (by
        have : j < (nums S).length := by rw [HNL.out]; exact hlt
        simp [List.getD, List.getElem?_eq_getElem this])
      obtain ⟨x, hx⟩ : ∃ x, x = (nums S).getD j 0 := ⟨_, rfl⟩
      rw [← hx] at hix hby
      have HX := Lib.hid hx
      obtain ⟨x0, x1⟩ := hby
      clear hx
      by_cases hxr : x = r
      · have HE := Lib.hid (show decide (r ∈ nums S) = true from decide_eq_true (by
          have hl : j < (nums S).length := by rw [HNL.out]; exact hlt
          rw [← hxr, HX.out]
          simp [List.getD, List.getElem?_eq_getElem hl]))
        have hxr2 : (x == r) = true := by simpa using hxr
        clear hxr
        go_wp2
        go_ret
        rw [HE.out]
        exact ⟨rfl, rfl⟩
      · have hxr2 : (x == r) = false := by simpa using hxr
        go_wp2
        refine ⟨⟨j + 1, by go_num, by omega, trivial, Lib.hid fun i hi => ?_⟩, by simp [intOf]; omega⟩
        rcases Nat.lt_or_ge i j with h | h
        · exact HO.out i h
        · rw [show i = j by omega, ← HX.out]; exact hxr
    · have hjn : j = S.size := by omega
      have HE := Lib.hid (show decide (r ∈ nums S) = false from decide_eq_false (fun h => by
        obtain ⟨i, hi, e⟩ := mem_getD h
        exact HO.out i (by rw [HNL.out] at hi; omega) e))
      subst hjn
      go_wp2
      go_ret
      rw [HE.out]
      exact ⟨rfl, rfl⟩
theorem ownG_made (w : World) (s : List (Int × Int)) (hl : s.length ≤ 1000000) : (w.alloc (.cells (cellsG s).toArray 74)).ownsRow w.heap.size 74 2 (.slice (some ⟨w.heap.size, 0, none⟩) s.length s.length) s.length (cellsG s) :=
  ⟨cellsG_length s, .inr ⟨w.heap.size, s.length, _, rfl, Nat.le_refl _, heap_alloc_new w _, Nat.le_refl _, by unfold maxLen; omega, by simp [cellsG_length], by rw [← cellsG_length s]; simp⟩⟩
theorem rnamed9_any (r : Int) (hr : r = 100 ∨ r = 119 ∨ r = 115) (W : World) :
    Calls Tryz.prog 59 #[.int .i64 r] W fun e w' => ∃ P q pc, e = .returned (.slice P q pc) ∧ w'.ownsRow W.heap.size 74 2 (.slice P q pc) q (cellsG (namedS r)) ∧ Below W.heap.size W w' := by
  rcases hr with rfl | rfl | rfl
  · go_enter Tryz.func59, Tryz.ntmps59
    go_wp2
    go_ret
    exact ⟨_, _, _, rfl, ownG_made W [(48, 57)] (by decide), (Below.refl _ _).alloc (Nat.le_refl _) _⟩
  · go_enter Tryz.func59, Tryz.ntmps59
    go_wp2
    go_ret
    exact ⟨_, _, _, rfl, ownG_made W [(48, 57), (65, 90), (95, 95), (97, 122)] (by decide), (Below.refl _ _).alloc (Nat.le_refl _) _⟩
  · go_enter Tryz.func59, Tryz.ntmps59
    go_wp2
    go_ret
    exact ⟨_, _, _, rfl, ownG_made W [(9, 13), (32, 32)] (by decide), (Below.refl _ _).alloc (Nat.le_refl _) _⟩
theorem namedS_wf (r : Int) : ∀ p ∈ namedS r, 0 ≤ p.1 ∧ p.1 ≤ p.2 ∧ p.2 ≤ 1114111 := by
  unfold namedS
  split
  · intro p hp; simp at hp; subst hp; decide
  · split
    · intro p hp; simp at hp; rcases hp with rfl | rfl | rfl | rfl <;> decide
    · split
      · intro p hp; simp at hp; rcases hp with rfl | rfl <;> decide
      · intro p hp; cases hp
theorem rowG_own9 {w : World} {B : Nat} {P : Option Addr} {q pc : Nat} {s : List (Int × Int)} (h : w.ownsRow B 74 2 (.slice P q pc) q (cellsG s)) : RowG w P q s := by
  obtain ⟨A', c', e, h, _⟩ := rowG_of_own h (by have := h.1; rw [cellsG_length] at this; omega)
  injection e with e1 _ _
  rw [e1]
  exact h
theorem namedS_len (r : Int) : (namedS r).length ≤ 4 := by
  unfold namedS
  (repeat' split) <;> simp
def escV (W w' : World) (e : Ending) (r : Int) : Prop :=
  match escL r with
  | none => e = .returned (.tuple #[.slice none 0 0, .bool false, .bool false])
  | some (s, is) => ∃ P q pc, e = .returned (.tuple #[.slice P q pc, .bool is, .bool true]) ∧ w'.ownsRow W.heap.size 74 2 (.slice P q pc) q (cellsG s)
set_option maxHeartbeats 2000000 in
theorem resc_small (r : Int) (hr : r = 100 ∨ r = 119 ∨ r = 115) (W : World) :
    Calls Tryz.prog 34 #[.int .i64 r] W fun e w' => escV W w' e r ∧ Below W.heap.size W w' := by
  have H1 := Lib.hid fun w => rin_any ⟨#[100, 119, 115]⟩ r w (by decide)
  have hin : decide (r ∈ nums ⟨#[100, 119, 115]⟩) = true := decide_eq_true (by show r ∈ [100, 119, 115]; simp; omega)
  have HIN := Lib.hid hin
  have HN := Lib.hid fun w => rnamed9_any r hr w
  have HV := Lib.hid (show escL r = some (namedS r, false) by unfold escL; rw [if_pos hr])
  clear hin hr
  go_enter Tryz.func34, Tryz.ntmps34
  go_wp2_with (first
    | (go_at_call 58; (with_reducible refine (H1.out _).mono ?_); rintro e w1 ⟨rfl, rfl⟩; rw [HIN.out])
    | (go_at_call 59; refine (HN.out _).mono ?_; rintro e w1 ⟨P, q, pc, rfl, ho, hb⟩; have HO := Lib.hid (And.intro ho hb); clear ho hb))
  go_ret3
  refine ⟨?_, HO.out.2⟩
  unfold escV
  rw [HV.out]
  exact ⟨_, _, _, rfl, HO.out.1⟩
set_option maxHeartbeats 2000000 in
theorem resc_big (r : Int) (hr : r = 68 ∨ r = 87 ∨ r = 83) (W : World) :
    Calls Tryz.prog 34 #[.int .i64 r] W fun e w' => escV W w' e r ∧ Below W.heap.size W w' := by
  have H1 := Lib.hid fun w => rin_any ⟨#[100, 119, 115]⟩ r w (by decide)
  have H2 := Lib.hid fun w => rin_any ⟨#[68, 87, 83]⟩ r w (by decide)
  have HIN := Lib.hid (show decide (r ∈ nums ⟨#[100, 119, 115]⟩) = false from decide_eq_false (by show ¬ r ∈ [100, 119, 115]; simp; omega))
  have HIN2 := Lib.hid (show decide (r ∈ nums ⟨#[68, 87, 83]⟩) = true from decide_eq_true (by show r ∈ [68, 87, 83]; simp; omega))
  have HN := Lib.hid fun w => rnamed9_any (r + 32) (by omega) w
  have HV := Lib.hid (show escL r = some (setOf fun x => !hasL (namedS (r + 32)) x, false) by unfold escL; rw [if_neg (by omega), if_pos hr])
  have hw : IntKind.i64.wrap (r + 32) = r + 32 := by rw [IntKind.wrap_i64]; omega
  clear hr
  go_enter Tryz.func34, Tryz.ntmps34
  go_wp2_with (first
    | (go_at_call 58; (with_reducible refine (H1.out _).mono ?_); rintro e w1 ⟨rfl, rfl⟩; rw [HIN.out])
    | (go_at_call 58; (with_reducible refine (H2.out _).mono ?_); rintro e w1 ⟨rfl, rfl⟩; rw [HIN2.out])
    | (go_at_call 59; refine (HN.out _).mono ?_; rintro e w1 ⟨P, q, pc, rfl, ho, hb⟩; have HM := Lib.hid (made_any (namedS (r + 32)) P q pc true w1 (rowG_own9 ho) (by have h := ho.1; rw [cellsG_length] at h; have := namedS_len (r + 32); omega) (namedS_wf _)); have HB := Lib.hid hb; clear ho hb)
    | (go_at_call 56; refine HM.out.mono ?_; rintro e w2 ⟨P2, q2, pc2, rfl, ho, hb⟩; have HO := Lib.hid (And.intro ho hb); clear ho hb))
  go_ret3
  refine ⟨?_, then_ HB.out HO.out.2⟩
  unfold escV
  rw [HV.out]
  have e : (fun x => !hasL (namedS (r + 32)) x) = (fun x => hasL (namedS (r + 32)) x != true) := by
    funext x
    cases hasL (namedS (r + 32)) x <;> rfl
  rw [e]
  exact ⟨_, _, _, rfl, row_base HO.out.1 (fun j hj => Nat.le_trans HB.out.size (row_lt HO.out.1 hj).1)⟩
set_option maxHeartbeats 2000000 in
theorem resc_one (r d : Int) (hr : r = 110 ∧ d = 10 ∨ r = 114 ∧ d = 13 ∨ r = 116 ∧ d = 9) (W : World) :
    Calls Tryz.prog 34 #[.int .i64 r] W fun e w' => escV W w' e r ∧ Below W.heap.size W w' := by
  have H1 := Lib.hid fun w => rin_any ⟨#[100, 119, 115]⟩ r w (by decide)
  have H2 := Lib.hid fun w => rin_any ⟨#[68, 87, 83]⟩ r w (by decide)
  have HIN := Lib.hid (show decide (r ∈ nums ⟨#[100, 119, 115]⟩) = false from decide_eq_false (by show ¬ r ∈ [100, 119, 115]; simp; omega))
  have HIN2 := Lib.hid (show decide (r ∈ nums ⟨#[68, 87, 83]⟩) = false from decide_eq_false (by show ¬ r ∈ [68, 87, 83]; simp; omega))
  have HV := Lib.hid (show escL r = some ([(d, d)], true) by
    unfold escL
    rcases hr with ⟨rfl, rfl⟩ | ⟨rfl, rfl⟩ | ⟨rfl, rfl⟩ <;> rfl)
  rcases hr with ⟨rfl, rfl⟩ | ⟨rfl, rfl⟩ | ⟨rfl, rfl⟩
  all_goals
    go_enter Tryz.func34, Tryz.ntmps34
    go_wp2_with (first
      | (go_at_call 58; (with_reducible refine (H1.out _).mono ?_); rintro e w1 ⟨rfl, rfl⟩; rw [HIN.out])
      | (go_at_call 58; (with_reducible refine (H2.out _).mono ?_); rintro e w1 ⟨rfl, rfl⟩; rw [HIN2.out]))
    go_ret3
    refine ⟨?_, (Below.refl _ _).alloc (Nat.le_refl _) _⟩
    unfold escV
    rw [HV.out]
    exact ⟨_, _, _, rfl, ownG_made W _ (by decide)⟩
theorem sign_nums : nums ⟨#[46, 94, 36, 124, 40, 41, 91, 93, 123, 125, 42, 43, 63, 92, 45]⟩ = signL := rfl
set_option maxHeartbeats 2000000 in
theorem resc_sign (r : Int) (h1 : ¬ (r = 100 ∨ r = 119 ∨ r = 115)) (h2 : ¬ (r = 68 ∨ r = 87 ∨ r = 83)) (h3 : ¬ (r = 110 ∨ r = 114 ∨ r = 116)) (W : World) :
    Calls Tryz.prog 34 #[.int .i64 r] W fun e w' => escV W w' e r ∧ Below W.heap.size W w' := by
  have H1 := Lib.hid fun w => rin_any ⟨#[100, 119, 115]⟩ r w (by decide)
  have H2 := Lib.hid fun w => rin_any ⟨#[68, 87, 83]⟩ r w (by decide)
  have H3 := Lib.hid fun w => rin_any ⟨#[46, 94, 36, 124, 40, 41, 91, 93, 123, 125, 42, 43, 63, 92, 45]⟩ r w (by decide)
  have HIN := Lib.hid (show decide (r ∈ nums ⟨#[100, 119, 115]⟩) = false from decide_eq_false (by show ¬ r ∈ [100, 119, 115]; simp; omega))
  have HIN2 := Lib.hid (show decide (r ∈ nums ⟨#[68, 87, 83]⟩) = false from decide_eq_false (by show ¬ r ∈ [68, 87, 83]; simp; omega))
  have n1 : ¬ r = 110 := by omega
  have n2 : ¬ r = 114 := by omega
  have n3 : ¬ r = 116 := by omega
  rw [sign_nums] at H3
  by_cases hs : r ∈ signL
  · have HIN3 := Lib.hid (show decide (r ∈ signL) = true from decide_eq_true hs)
    have HV := Lib.hid (show escL r = some ([(r, r)], true) by
      unfold escL
      rw [if_neg h1, if_neg h2, if_neg n1, if_neg n2, if_neg n3, if_pos hs])
    clear h1 h2 h3 hs
    go_enter Tryz.func34, Tryz.ntmps34
    go_wp2_with (first
      | (go_at_call 58; (with_reducible refine (H1.out _).mono ?_); rintro e w1 ⟨rfl, rfl⟩; rw [HIN.out])
      | (go_at_call 58; (with_reducible refine (H2.out _).mono ?_); rintro e w1 ⟨rfl, rfl⟩; rw [HIN2.out])
      | (go_at_call 58; (with_reducible refine (H3.out _).mono ?_); rintro e w1 ⟨rfl, rfl⟩; rw [HIN3.out]))
    go_ret3
    refine ⟨?_, (Below.refl _ _).alloc (Nat.le_refl _) _⟩
    unfold escV
    rw [HV.out]
    exact ⟨_, _, _, rfl, ownG_made W [(r, r)] (by simp)⟩
  · have HIN3 := Lib.hid (show decide (r ∈ signL) = false from decide_eq_false hs)
    have HV := Lib.hid (show escL r = none by
      unfold escL
      rw [if_neg h1, if_neg h2, if_neg n1, if_neg n2, if_neg n3, if_neg hs])
    clear h1 h2 h3 hs
    go_enter Tryz.func34, Tryz.ntmps34
    go_wp2_with (first
      | (go_at_call 58; (with_reducible refine (H1.out _).mono ?_); rintro e w1 ⟨rfl, rfl⟩; rw [HIN.out])
      | (go_at_call 58; (with_reducible refine (H2.out _).mono ?_); rintro e w1 ⟨rfl, rfl⟩; rw [HIN2.out])
      | (go_at_call 58; (with_reducible refine (H3.out _).mono ?_); rintro e w1 ⟨rfl, rfl⟩; rw [HIN3.out]))
    go_ret3
    refine ⟨?_, Below.refl _ _⟩
    unfold escV
    rw [HV.out]
    rfl
theorem resc_any (r : Int) (W : World) :
    Calls Tryz.prog 34 #[.int .i64 r] W fun e w' => escV W w' e r ∧ Below W.heap.size W w' := by
  by_cases h1 : r = 100 ∨ r = 119 ∨ r = 115
  · exact resc_small r h1 W
  by_cases h2 : r = 68 ∨ r = 87 ∨ r = 83
  · exact resc_big r h2 W
  by_cases h3 : r = 110 ∨ r = 114 ∨ r = 116
  · rcases h3 with rfl | rfl | rfl
    · exact resc_one 110 10 (by omega) W
    · exact resc_one 114 13 (by omega) W
    · exact resc_one 116 9 (by omega) W
  · exact resc_sign r h1 h2 h3 W
end Go.Proofs.YtaapbmdojkjphaaGreat
namespace Go.Proofs.YtaapbmdojkjphaaGreat
open Go Go.RowKit
set_option linter.unusedVariables false
set_option maxRecDepth 20000
section
variable {F F' : Nat → Prop} {w w' : World}
theorem RowF.move {A : Option Addr} {n : Nat} {s : List (Int × Int)} (h : RowF F w A n s) (hs : w.heap.size ≤ w'.heap.size) (hk : ∀ b, F b → b < w.heap.size → F' b ∧ w'.heap[b]? = w.heap[b]?) : RowF F' w' A n s := by
  refine ⟨(h.keep hs fun b h1 h2 => (hk b h1 h2).2).1, fun b o hn hA => ?_⟩
  obtain ⟨b', o', hA', hlt, _⟩ := h.1.2 hn
  rw [hA] at hA'
  injection hA' with hA'
  injection hA' with e1 e2
  subst e1
  exact (hk b (h.2 b o hn hA) hlt).1
theorem RowCap.move {A : Option Addr} {n nk ck : Nat} {s : List (Int × Int)} (h : RowCap F w A n s nk ck) (hs : w.heap.size ≤ w'.heap.size) (hk : ∀ b, F b → b < w.heap.size → F' b ∧ w'.heap[b]? = w.heap[b]?) : RowCap F' w' A n s nk ck := ⟨h.1.move hs hk, h.2⟩
theorem WoodAt.move (hs : w.heap.size ≤ w'.heap.size) (hk : ∀ b, F b → b < w.heap.size → F' b ∧ w'.heap[b]? = w.heap[b]?) : ∀ {T : Wood} {b o : Nat}, WoodAt F w T b o → (T.len = 0 ∨ (F b ∧ b < w.heap.size)) → WoodAt F' w' T b o
  | .nil, _, _, _, _ => trivial
  | .cons op s mn mx k x, b, o, ⟨⟨A, D, ns, cs, nk, ck, h1, h2, h3, h4⟩, h5⟩, hb => by
    have hb : F b ∧ b < w.heap.size := by
      rcases hb with hb | hb
      · simp [Wood.len] at hb
      · exact hb
    have hh := (hk b hb.1 hb.2).2
    have hcell : ∀ j, w'.cell? ⟨b, j, none⟩ = w.cell? ⟨b, j, none⟩ := fun j => by simp only [World.cell?, hh]
    refine ⟨⟨A, D, ns, cs, nk, ck, fun j v hv => by rw [hcell]; exact h1 j v hv, h2.move hs hk, h3, fun hn => ?_⟩, WoodAt.move hs hk h5 (.inr hb)⟩
    obtain ⟨b', o', hD, hF, hlt, hw⟩ := h4 hn
    exact ⟨b', o', hD, (hk _ hF hlt).1, by omega, WoodAt.move hs hk hw (.inr ⟨hF, hlt⟩)⟩
theorem KidsAt.move {D : Option Addr} {nk : Nat} {k : Wood} (h : KidsAt F w D nk k) (hs : w.heap.size ≤ w'.heap.size) (hk : ∀ b, F b → b < w.heap.size → F' b ∧ w'.heap[b]? = w.heap[b]?) : KidsAt F' w' D nk k := by
  refine ⟨h.1, fun hn => ?_⟩
  obtain ⟨b, o, hD, hF, hlt, hw⟩ := h.2 hn
  exact ⟨b, o, hD, (hk _ hF hlt).1, by omega, hw.move hs hk (.inr ⟨hF, hlt⟩)⟩
theorem NodeIn.move {v : Value} {T : Wood} (h : NodeIn F w v T) (hs : w.heap.size ≤ w'.heap.size) (hk : ∀ b, F b → b < w.heap.size → F' b ∧ w'.heap[b]? = w.heap[b]?) : NodeIn F' w' v T := by
  obtain ⟨op, s, mn, mx, k, A, D, ns, cs, nk, ck, h1, h2, h3, h4⟩ := h
  exact ⟨op, s, mn, mx, k, A, D, ns, cs, nk, ck, h1, h2, h3.move hs hk, h4.move hs hk⟩
end
structure NV where
  op : Int
  A : Option Addr
  ns : Nat
  cs : Nat
  mn : Int
  mx : Int
  D : Option Addr
  nk : Nat
  ck : Nat
def NV.cells (x : NV) : List Value := nodeV x.op x.A x.ns x.cs x.mn x.mx x.D x.nk x.ck
def NV.val (x : NV) : Value := .agg #[.int .i64 x.op, .slice x.A x.ns x.cs, .int .i64 x.mn, .int .i64 x.mx, .slice x.D x.nk x.ck]
def cellsN (xs : List NV) : List Value := xs.flatMap NV.cells
theorem cellsN_length (xs : List NV) : (cellsN xs).length = xs.length * 5 := by
  induction xs with
  | nil => rfl
  | cons p s ih =>
    show (p.cells ++ cellsN s).length = _
    rw [List.length_append, ih, List.length_cons, show p.cells.length = 5 from rfl]
    omega
theorem cellsN_append (a b : List NV) : cellsN (a ++ b) = cellsN a ++ cellsN b := by simp [cellsN]
theorem cellsN_at : ∀ (xs : List NV) (j : Nat) (x : NV), xs[j]? = some x → ∀ i v, x.cells[i]? = some v → (cellsN xs)[j * 5 + i]? = some v
  | [], j, x, h, _, _, _ => by simp at h
  | p :: s, 0, x, h, i, v, hv => by
    simp only [List.getElem?_cons_zero, Option.some.injEq] at h
    subst h
    have hi : i < 5 := (List.getElem?_eq_some_iff.1 hv).1
    show (p.cells ++ cellsN s)[0 * 5 + i]? = _
    rw [Nat.zero_mul, Nat.zero_add, List.getElem?_append_left (show i < p.cells.length from hi)]
    exact hv
  | p :: s, j + 1, x, h, i, v, hv => by
    have ih := cellsN_at s j x (by simpa using h) i v hv
    show (p.cells ++ cellsN s)[(j + 1) * 5 + i]? = _
    rw [List.getElem?_append_right (by show 5 ≤ _; omega), show (j + 1) * 5 + i - p.cells.length = j * 5 + i by show _ - 5 = _; omega]
    exact ih
theorem NV.cells_one (x : NV) : ∀ u ∈ x.cells, u.oneCell' = true := by
  intro u hu
  simp only [NV.cells, nodeV, List.mem_cons, List.not_mem_nil, or_false] at hu
  rcases hu with rfl | rfl | rfl | rfl | rfl <;> rfl
def NodesIn (F : Nat → Prop) (w : World) : List NV → Wood → Prop
  | [], .nil => True
  | x :: xs, .cons op s mn mx k t => (x.op = op ∧ x.mn = mn ∧ x.mx = mx) ∧ RowCap F w x.A x.ns s x.nk x.ck ∧ KidsAt F w x.D x.nk k ∧ NodesIn F w xs t
  | _, _ => False
section
variable {F F' : Nat → Prop} {w w' : World}
theorem NodesIn.move (hs : w.heap.size ≤ w'.heap.size) (hk : ∀ b, F b → b < w.heap.size → F' b ∧ w'.heap[b]? = w.heap[b]?) : ∀ {xs : List NV} {T : Wood}, NodesIn F w xs T → NodesIn F' w' xs T
  | [], .nil, _ => trivial
  | x :: xs, .cons op s mn mx k t, ⟨h1, h2, h3, h4⟩ => ⟨h1, h2.move hs hk, h3.move hs hk, NodesIn.move hs hk h4⟩
  | [], .cons .., h => h.elim
  | _ :: _, .nil, h => h.elim
theorem NodesIn.len : ∀ {xs : List NV} {T : Wood}, NodesIn F w xs T → T.len = xs.length
  | [], .nil, _ => rfl
  | x :: xs, .cons op s mn mx k t, ⟨h1, h2, h3, h4⟩ => by rw [Wood.len, NodesIn.len h4, List.length_cons]
  | [], .cons .., h => h.elim
  | _ :: _, .nil, h => h.elim
theorem NodesIn.app : ∀ {xs ys : List NV} {T U : Wood}, NodesIn F w xs T → NodesIn F w ys U → NodesIn F w (xs ++ ys) (T.app U)
  | [], ys, .nil, U, _, h => h
  | x :: xs, ys, .cons op s mn mx k t, U, ⟨h1, h2, h3, h4⟩, h => ⟨h1, h2, h3, NodesIn.app h4 h⟩
  | [], _, .cons .., _, h, _ => h.elim
  | _ :: _, _, .nil, _, h, _ => h.elim
theorem NodesIn.one {x : NV} {T : Wood} (h : NodesIn F w [x] T) : NodeIn F w x.val T := by
  match T, h with
  | .cons op s mn mx k .nil, ⟨⟨h1, h2, h3⟩, h4, h5, _⟩ =>
    subst h1; subst h2; subst h3
    exact ⟨_, s, _, _, k, x.A, x.D, x.ns, x.cs, x.nk, x.ck, rfl, rfl, h4, h5⟩
  | .cons _ _ _ _ _ (.cons ..), ⟨_, _, _, h⟩ => exact h.elim
theorem NodeIn.one {v : Value} {T : Wood} (h : NodeIn F w v T) : ∃ x : NV, v = x.val ∧ NodesIn F w [x] T := by
  obtain ⟨op, s, mn, mx, k, A, D, ns, cs, nk, ck, rfl, rfl, h3, h4⟩ := h
  exact ⟨⟨op, A, ns, cs, mn, mx, D, nk, ck⟩, rfl, ⟨rfl, rfl, rfl⟩, h3, h4, trivial⟩
theorem NodeIn.len {v : Value} {T : Wood} (h : NodeIn F w v T) : T.len = 1 := by
  obtain ⟨op, s, mn, mx, k, A, D, ns, cs, nk, ck, rfl, rfl, h3, h4⟩ := h
  rfl
theorem NodesIn.wood : ∀ {xs : List NV} {T : Wood} {b o : Nat}, NodesIn F w xs T → (∀ j x, xs[j]? = some x → ∀ i v, x.cells[i]? = some v → w.cell? ⟨b, o + j * 5 + i, none⟩ = some v) → WoodAt F w T b o
  | [], .nil, _, _, _, _ => trivial
  | x :: xs, .cons op s mn mx k t, b, o, ⟨⟨h1, h2, h3⟩, h4, h5, h6⟩, hc => by
    subst h1; subst h2; subst h3
    refine ⟨⟨x.A, x.D, x.ns, x.cs, x.nk, x.ck, fun i v hv => ?_, h4, h5⟩, NodesIn.wood h6 fun j y hy i v hv => ?_⟩
    · have := hc 0 x rfl i v hv
      rwa [Nat.zero_mul, Nat.add_zero] at this
    · have := hc (j + 1) y (by simpa using hy) i v hv
      rwa [show o + (j + 1) * 5 + i = o + 5 + j * 5 + i by omega] at this
  | [], .cons .., _, _, h, _ => h.elim
  | _ :: _, .nil, _, _, h, _ => h.elim
end
def Fr (B : Nat) (V : Value) (b : Nat) : Prop := B ≤ b ∧ V.ownBlock ≠ some b
theorem info_node : (Tryz.prog.info? 27).map (fun i => (i.zero, i.size, i.bytes)) = some (some (.agg #[.int .i64 0, .slice none 0 0, .int .i64 0, .int .i64 0, .slice none 0 0]), 5, 72) := by kernel_rfl
theorem row_cellsN {w : World} {B : Nat} {P : Option Addr} {q pc : Nat} {xs : List NV} (h : w.ownsRow B 27 5 (.slice P q pc) q (cellsN xs)) (hq : 0 < q) : ∃ b, P = some ⟨b, 0, none⟩ ∧ B ≤ b ∧ b < w.heap.size ∧ q = xs.length ∧ q ≤ pc ∧ pc ≤ maxLen ∧ ∀ j x, xs[j]? = some x → ∀ i v, x.cells[i]? = some v → w.cell? ⟨b, 0 + j * 5 + i, none⟩ = some v := by
  have hl := h.1
  rw [cellsN_length] at hl
  rcases h.2 with ⟨e, h0⟩ | ⟨g, cap, cur, e, hB, hg, hnc, hcm, hcs, ht⟩
  · omega
  · injection e with e1 _ e3
    subst e1; subst e3
    refine ⟨g, rfl, hB, (Array.getElem?_eq_some_iff.1 hg).1, by omega, hnc, hcm, fun j x hx i v hv => ?_⟩
    have hj : j < xs.length := (List.getElem?_eq_some_iff.1 hx).1
    have hi : i < 5 := (List.getElem?_eq_some_iff.1 hv).1
    have := cellsN_at xs j x hx i v hv
    rw [cell_of_row w g (0 + j * 5 + i) cur 27 (0, 0) hg, ← this, ← ht, List.getElem?_take_of_lt (by omega), Array.getElem?_toList, Nat.zero_add]
theorem push_node {w : World} {B : Nat} {P : Option Addr} {q pc : Nat} {xs : List NV} {T n : Wood} {x : NV} (h : w.ownsRow B 27 5 (.slice P q pc) q (cellsN xs)) (hT : NodesIn (Fr B (.slice P q pc)) w xs T) (hx : NodesIn (Fr B (.slice P q pc)) w [x] n) (hq : q ≤ 100000) (hb : B ≤ w.heap.size) :
    ∃ P' pc' w', (Builtin.append_ #[25, 25] 25 #[.slice P q pc, .slice (some ⟨w.heap.size, 0, none⟩) 1 1]).run Tryz.prog (w.alloc (.cells x.cells.toArray 27)) = .ok (.slice P' (q + 1) pc') w' ∧
      w'.ownsRow B 27 5 (.slice P' (q + 1) pc') (q + 1) (cellsN (xs ++ [x])) ∧ NodesIn (Fr B (.slice P' (q + 1) pc')) w' (xs ++ [x]) (T.app n) ∧ Below B w w' := by
  obtain ⟨i0, hi, hz0, hz1, hz2⟩ := info_parts info_node
  obtain ⟨W, hW⟩ : ∃ W, W = w.alloc (.cells x.cells.toArray 27) := ⟨_, rfl⟩
  have hws : W.heap.size = w.heap.size + 1 := by rw [hW]; simp
  have hold : ∀ k, k < w.heap.size → W.heap[k]? = w.heap[k]? := fun k hk => by rw [hW]; exact Below.heap_alloc w _ k hk
  have hown : W.ownsRow B 27 5 (.slice P q pc) q (cellsN xs) := row_keep h fun k hk _ => hold k hk
  have hcells : ∀ j u, x.cells[j]? = some u → W.cell? ((⟨w.heap.size, 0, none⟩ : Addr).add j) = some u := by
    intro j u hu
    rw [show (⟨w.heap.size, 0, none⟩ : Addr).add j = ⟨w.heap.size, 0 + j, none⟩ by unfold Addr.add; split <;> simp_all, hW, cell_of_row _ w.heap.size (0 + j) _ 27 (0, 0) (heap_alloc_new w _), Nat.zero_add]
    simpa using hu
  obtain ⟨V', w', h1, h2, h3, _, h4⟩ := run_append_own_at (P := Tryz.prog) W B 25 25 27 i0 _ 5 72 Tryz.underlying25 hi hz0 hz1 hz2 rfl (by decide) _ q _ hown ⟨w.heap.size, 0, none⟩ 1 1 x.cells rfl hcells x.cells_one (by unfold maxLen; omega) (by omega) (by omega)
  have hbW : Below B w W := by rw [hW]; exact (Below.refl _ _).alloc hb _
  have hb' : Below B w w' := hbW.grown h3 (by omega) (by intro k hk; exact (row_lt hown hk).1)
  have key : ∀ b, Fr B (.slice P q pc) b → b < w.heap.size → Fr B V' b ∧ w'.heap[b]? = w.heap[b]? := by
    intro b hF hlt
    refine ⟨⟨hF.1, fun e => ?_⟩, (h3.block b (by omega) fun e => hF.2 e.symm).trans (hold b hlt)⟩
    rcases h4 with h4 | h4
    · exact hF.2 (h4 ▸ e)
    · rw [h4] at e
      injection e with e
      omega
  have hsz : w.heap.size ≤ w'.heap.size := Nat.le_trans (by omega) h3.size
  have hN : NodesIn (Fr B V') w' (xs ++ [x]) (T.app n) := (hT.move hsz key).app (hx.move hsz key)
  have e : cellsN xs ++ x.cells = cellsN (xs ++ [x]) := by rw [cellsN_append]; simp [cellsN]
  rw [e] at h2
  rcases h2.2 with ⟨rfl, h0⟩ | ⟨b, cap, cu, rfl, _⟩
  · omega
  · exact ⟨_, _, w', by rw [← hW]; exact h1, h2, hN, hb'⟩
theorem nilN (w : World) (B : Nat) : w.ownsRow B 27 5 (.slice none 0 0) 0 (cellsN []) := World.ownsRow_nil _ _ _ _
theorem oneN_one {op : Int} {T : Wood} (h : T.len = 1) : oneN op T = T := by
  obtain ⟨o, s, x, z, k, rfl⟩ := Wood.one_of_len h
  rfl
theorem oneN_more {op : Int} {T : Wood} (h : 2 ≤ T.len) : oneN op T = .cons op [] 0 0 T .nil := by
  match T, h with
  | .cons o s x z k (.cons ..), _ => rfl
  | .cons o s x z k .nil, h => simp [Wood.len] at h
  | .nil, h => simp [Wood.len] at h
theorem rowF_nil (F : Nat → Prop) (w : World) : RowF F w none 0 [] := ⟨RowG.nil_, fun _ _ h => absurd h (by omega)⟩
theorem kids_nil (F : Nat → Prop) (w : World) : KidsAt F w none 0 .nil := ⟨rfl, fun h => absurd h (by omega)⟩
theorem node_leaf (F : Nat → Prop) (w : World) (op : Int) : NodeIn F w (.agg #[.int .i64 op, .slice none 0 0, .int .i64 0, .int .i64 0, .slice none 0 0]) (leaf op []) :=
  ⟨op, [], 0, 0, .nil, none, none, 0, 0, 0, 0, rfl, rfl, ⟨rowF_nil F w, Nat.le_refl 0⟩, kids_nil F w⟩
theorem box_facts {w : World} {r : Nat} {v0 v1 v2 v3 v4 : Value} (h : w.heap[r]? = some (.cells #[v0, v1, v2, v3, v4] 27 (0, 0))) :
    w.cell? ⟨r, 0, none⟩ = some v0 ∧ w.cell? ⟨r, 1, none⟩ = some v1 ∧ w.cell? ⟨r, 2, none⟩ = some v2 ∧ w.cell? ⟨r, 3, none⟩ = some v3 ∧ w.cell? ⟨r, 4, none⟩ = some v4 ∧ ∀ j, w.frozen? ⟨r, j, none⟩ = false :=
  ⟨cell_of_row w r 0 _ _ (0, 0) h, cell_of_row w r 1 _ _ (0, 0) h, cell_of_row w r 2 _ _ (0, 0) h, cell_of_row w r 3 _ _ (0, 0) h, cell_of_row w r 4 _ _ (0, 0) h, fun j => by simp [World.frozen?, h]⟩
def put5 (w : World) (r : Nat) (a b c d e : Value) : World := ((((w.setCell ⟨r, 0, none⟩ a).setCell ⟨r, 1, none⟩ b).setCell ⟨r, 2, none⟩ c).setCell ⟨r, 3, none⟩ d).setCell ⟨r, 4, none⟩ e
theorem put5_heap {w : World} {r : Nat} {v0 v1 v2 v3 v4 : Value} (h : w.heap[r]? = some (.cells #[v0, v1, v2, v3, v4] 27 (0, 0))) (a b c d e : Value) : (put5 w r a b c d e).heap[r]? = some (.cells #[a, b, c, d, e] 27 (0, 0)) :=
  heap_setCell_same _ r 4 _ _ _ (heap_setCell_same _ r 3 _ _ _ (heap_setCell_same _ r 2 _ _ _ (heap_setCell_same _ r 1 _ _ _ (heap_setCell_same _ r 0 _ _ _ h))))
theorem put5_below {B : Nat} (w : World) {r : Nat} (hr : B ≤ r) (a b c d e : Value) : Below B w (put5 w r a b c d e) :=
  (((((Below.refl B w).setCell (p := ⟨r, 0, none⟩) hr a).setCell (p := ⟨r, 1, none⟩) hr b).setCell (p := ⟨r, 2, none⟩) hr c).setCell (p := ⟨r, 3, none⟩) hr d).setCell (p := ⟨r, 4, none⟩) hr e
theorem put5_size (w : World) (r : Nat) (a b c d e : Value) : (put5 w r a b c d e).heap.size = w.heap.size := by simp [put5]
theorem put5_other (w : World) {r k : Nat} (hk : k ≠ r) (a b c d e : Value) : (put5 w r a b c d e).heap[k]? = w.heap[k]? :=
  ((((Below.heap_setCell _ _ _ _ hk).trans (Below.heap_setCell _ _ _ _ hk)).trans (Below.heap_setCell _ _ _ _ hk)).trans (Below.heap_setCell _ _ _ _ hk)).trans (Below.heap_setCell _ _ _ _ hk)
theorem rowF_own {w : World} {B : Nat} {P : Option Addr} {q pc : Nat} {s : List (Int × Int)} (h : w.ownsRow B 74 2 (.slice P q pc) q (cellsG s)) : RowF (fun b => B ≤ b) w P q s := by
  refine ⟨rowG_own9 h, fun b o hq hP => ?_⟩
  subst hP
  rcases h.2 with ⟨e, h0⟩ | ⟨g, cap, cur, e, hB, _⟩
  · injection e with e1 _ _; cases e1
  · injection e with e1 _ _
    injection e1 with e1
    injection e1 with e1 _ _
    subst e1
    exact hB
theorem RowF.below {F : Nat → Prop} {w w' : World} {A : Option Addr} {n : Nat} {s : List (Int × Int)} (h : RowF F w A n s) (hb : Below w.heap.size w w') : RowF F w' A n s := h.keep hb.size fun b _ hlt => hb.block b hlt
end Go.Proofs.YtaapbmdojkjphaaGreat
namespace Go.Proofs.YtaapbmdojkjphaaGreat
open Go Go.RowKit
set_option linter.unusedVariables false
set_option maxRecDepth 20000
structure InstL where
  op : Int
  set : List (Int × Int)
  x : Int
  y : Int
structure IV where
  i : InstL
  A : Option Addr
  n : Nat
  c : Nat
def IV.cells (v : IV) : List Value := [.int .i64 v.i.op, .slice v.A v.n v.c, .int .i64 v.i.x, .int .i64 v.i.y]
def cellsI (xs : List IV) : List Value := xs.flatMap IV.cells
theorem cellsI_length (xs : List IV) : (cellsI xs).length = xs.length * 4 := by
  induction xs with
  | nil => rfl
  | cons p s ih =>
    show (p.cells ++ cellsI s).length = _
    rw [List.length_append, ih, List.length_cons, show p.cells.length = 4 from rfl]
    omega
theorem cellsI_append (a b : List IV) : cellsI (a ++ b) = cellsI a ++ cellsI b := by simp [cellsI]
theorem cellsI_at : ∀ (xs : List IV) (j : Nat) (x : IV), xs[j]? = some x → ∀ i v, x.cells[i]? = some v → (cellsI xs)[j * 4 + i]? = some v
  | [], j, x, h, _, _, _ => by simp at h
  | p :: s, 0, x, h, i, v, hv => by
    simp only [List.getElem?_cons_zero, Option.some.injEq] at h
    subst h
    have hi : i < 4 := (List.getElem?_eq_some_iff.1 hv).1
    show (p.cells ++ cellsI s)[0 * 4 + i]? = _
    rw [Nat.zero_mul, Nat.zero_add, List.getElem?_append_left (show i < p.cells.length from hi)]
    exact hv
  | p :: s, j + 1, x, h, i, v, hv => by
    have ih := cellsI_at s j x (by simpa using h) i v hv
    show (p.cells ++ cellsI s)[(j + 1) * 4 + i]? = _
    rw [List.getElem?_append_right (by show 4 ≤ _; omega), show (j + 1) * 4 + i - p.cells.length = j * 4 + i by show _ - 4 = _; omega]
    exact ih
theorem IV.cells_one (x : IV) : ∀ u ∈ x.cells, u.oneCell' = true := by
  intro u hu
  simp only [IV.cells, List.mem_cons, List.not_mem_nil, or_false] at hu
  rcases hu with rfl | rfl | rfl | rfl <;> rfl
theorem info_inst : (Tryz.prog.info? 89).map (fun i => (i.zero, i.size, i.bytes)) = some (some (.agg #[.int .i64 0, .slice none 0 0, .int .i64 0, .int .i64 0]), 4, 48) := by kernel_rfl
def FW (B g : Nat) (V : Value) (b : Nat) : Prop := B ≤ b ∧ b ≠ g ∧ V.ownBlock ≠ some b
structure WrS (B g : Nat) (w : World) (P : Option Addr) (q pc : Nat) (xs : List IV) : Prop where
  hg : w.heap[g]? = some (.cells #[.slice P q pc] 86 (0, 0))
  hB : B ≤ g
  row : w.ownsRow B 89 4 (.slice P q pc) q (cellsI xs)
  ne : (Value.slice P q pc).ownBlock ≠ some g
  sets : ∀ x ∈ xs, RowF (FW B g (.slice P q pc)) w x.A x.n x.i.set
def Wk (B g : Nat) (V : Value) (w w' : World) : Prop := Below B w w' ∧ w.heap.size ≤ w'.heap.size ∧ ∀ b, b < w.heap.size → b ≠ g → V.ownBlock ≠ some b → w'.heap[b]? = w.heap[b]?
def Vk (w : World) (V V' : Value) : Prop := ∀ b, b < w.heap.size → V.ownBlock ≠ some b → V'.ownBlock ≠ some b
section
variable {B g q pc q' pc' : Nat} {w w' w'' : World} {P P' : Option Addr} {xs : List IV} {V V' V'' : Value}
theorem WrS.lt (h : WrS B g w P q pc xs) : g < w.heap.size := (Array.getElem?_eq_some_iff.1 h.hg).1
theorem WrS.len (h : WrS B g w P q pc xs) : xs.length = q := by have := h.row.1; rw [cellsI_length] at this; omega
theorem Wk.refl (B g : Nat) (V : Value) (w : World) : Wk B g V w w := ⟨Below.refl _ _, Nat.le_refl _, fun _ _ _ _ => rfl⟩
theorem Vk.refl (w : World) (V : Value) : Vk w V V := fun _ _ h => h
theorem Wk.trans (h : Wk B g V w w') (hv : Vk w V V') (k : Wk B g V' w' w'') : Wk B g V w w'' :=
  ⟨h.1.trans k.1, Nat.le_trans h.2.1 k.2.1, fun b hb h1 h2 => (k.2.2 b (Nat.lt_of_lt_of_le hb h.2.1) h1 (hv b hb h2)).trans (h.2.2 b hb h1 h2)⟩
theorem Vk.trans (hs : w.heap.size ≤ w'.heap.size) (h : Vk w V V') (k : Vk w' V' V'') : Vk w V V'' := fun b hb hn => k b (Nat.lt_of_lt_of_le hb hs) (h b hb hn)
theorem Wk.of_below (hB : B ≤ w.heap.size) (h : Below w.heap.size w w') : Wk B g V w w' := ⟨h.mono hB, h.size, fun b hb _ _ => h.block b hb⟩
theorem WrS.below (h : WrS B g w P q pc xs) (hb : Below w.heap.size w w') : WrS B g w' P q pc xs :=
  ⟨(hb.block g h.lt).trans h.hg, h.hB, row_keep h.row fun k hk _ => hb.block k hk, h.ne, fun x hx => (h.sets x hx).below hb⟩
end
theorem WrS.push {B g q pc : Nat} {w : World} {P : Option Addr} {xs : List IV} {x : IV} (h : WrS B g w P q pc xs) {d : Nat} (hd : w.heap[d]? = some (.cells x.cells.toArray 89 (0, 0))) (hx : RowF (FW B g (.slice P q pc)) w x.A x.n x.i.set) (hq : q ≤ 100000) :
    ∃ P' pc' w', (Builtin.append_ #[58, 58] 58 #[.slice P q pc, .slice (some ⟨d, 0, none⟩) 1 1]).run Tryz.prog w = .ok (.slice P' (q + 1) pc') w' ∧
      w'.heap[g]? = some (.cells #[.slice P q pc] 86 (0, 0)) ∧ g < w'.heap.size ∧ w'.cell? ⟨g, 0, none⟩ = some (.slice P q pc) ∧ w'.frozen? ⟨g, 0, none⟩ = false ∧
      WrS B g (w'.setCell ⟨g, 0, none⟩ (.slice P' (q + 1) pc')) P' (q + 1) pc' (xs ++ [x]) ∧ Wk B g (.slice P q pc) w (w'.setCell ⟨g, 0, none⟩ (.slice P' (q + 1) pc')) ∧ Vk w (.slice P q pc) (.slice P' (q + 1) pc') ∧ Below B w w' := by
  obtain ⟨i0, hi, hz0, hz1, hz2⟩ := info_parts info_inst
  have hgl := h.lt
  have hcells : ∀ j u, x.cells[j]? = some u → w.cell? ((⟨d, 0, none⟩ : Addr).add j) = some u := by
    intro j u hu
    rw [show (⟨d, 0, none⟩ : Addr).add j = ⟨d, 0 + j, none⟩ by unfold Addr.add; split <;> simp_all, cell_of_row w d (0 + j) _ 89 (0, 0) hd, Nat.zero_add]
    simpa using hu
  have hBw : B ≤ w.heap.size := by have := h.hB; omega
  obtain ⟨V', w', h1, h2, h3, _, h4⟩ := run_append_own_at (P := Tryz.prog) w B 58 58 89 i0 _ 4 48 Tryz.underlying58 hi hz0 hz1 hz2 rfl (by decide) _ q _ h.row ⟨d, 0, none⟩ 1 1 x.cells rfl hcells x.cells_one (by unfold maxLen; omega) (by omega) hBw
  have hb' : Below B w w' := (Below.refl _ _).grown h3 hBw (by intro k hk; exact (row_lt h.row hk).1)
  have key : Vk w (.slice P q pc) V' := fun b hlt hne e => by
    rcases h4 with h4 | h4
    · exact hne (h4 ▸ e)
    · rw [h4] at e; injection e with e; omega
  have kp : ∀ b, b < w.heap.size → (Value.slice P q pc).ownBlock ≠ some b → w'.heap[b]? = w.heap[b]? := fun b hlt hne => h3.block b hlt fun e => hne e.symm
  have e : cellsI xs ++ x.cells = cellsI (xs ++ [x]) := by rw [cellsI_append]; simp [cellsI]
  rw [e] at h2
  obtain ⟨P', pc', rfl⟩ : ∃ P' pc', V' = .slice P' (q + 1) pc' := by
    rcases h2.2 with ⟨rfl, h0⟩ | ⟨b, cap, cu, rfl, _⟩
    · omega
    · exact ⟨_, _, rfl⟩
  have hg' : w'.heap[g]? = some (.cells #[.slice P q pc] 86 (0, 0)) := (kp g hgl h.ne).trans h.hg
  have hgl' : g < w'.heap.size := (Array.getElem?_eq_some_iff.1 hg').1
  have hset : (w'.setCell ⟨g, 0, none⟩ (.slice P' (q + 1) pc')).heap[g]? = some (.cells #[.slice P' (q + 1) pc'] 86 (0, 0)) := heap_setCell_same _ g 0 _ _ _ hg'
  have hoth : ∀ b, b ≠ g → (w'.setCell ⟨g, 0, none⟩ (.slice P' (q + 1) pc')).heap[b]? = w'.heap[b]? := fun b hb => Below.heap_setCell _ _ _ _ hb
  have hne' : (Value.slice P' (q + 1) pc').ownBlock ≠ some g := key g hgl h.ne
  have mv : ∀ b, FW B g (.slice P q pc) b → b < w.heap.size → FW B g (.slice P' (q + 1) pc') b ∧ (w'.setCell ⟨g, 0, none⟩ (.slice P' (q + 1) pc')).heap[b]? = w.heap[b]? := fun b hF hlt => ⟨⟨hF.1, hF.2.1, key b hlt hF.2.2⟩, (hoth b hF.2.1).trans (kp b hlt hF.2.2)⟩
  have hsz : w.heap.size ≤ (w'.setCell ⟨g, 0, none⟩ (.slice P' (q + 1) pc')).heap.size := by have := h3.size; simpa using this
  refine ⟨P', pc', w', h1, hg', hgl', cell_of_row w' g 0 _ _ (0, 0) hg', by simp [World.frozen?, hg'], ⟨hset, h.hB, row_keep h2 fun k hk hv => hoth k fun e => hne' (by rw [← e]; exact hv), hne', fun y hy => ?_⟩, ⟨hb'.trans ((Below.refl _ _).setCell (p := ⟨g, 0, none⟩) h.hB _), hsz, fun b hb h1 h2 => (hoth b h1).trans (kp b hb h2)⟩, key, hb'⟩
  rcases List.mem_append.1 hy with hy | hy
  · exact (h.sets y hy).move hsz mv
  · rw [List.mem_singleton] at hy
    subst hy
    exact hx.move hsz mv
end Go.Proofs.YtaapbmdojkjphaaGreat
namespace Go.Proofs.YtaapbmdojkjphaaGreat
open Go Go.RowKit
set_option linter.unusedVariables false
set_option maxRecDepth 20000
theorem step_append_ex {P : Program} {ops : Array Oper} {o : Oper} {a : Act} {w : World} {K : Act → World → Prop} {Q : Exit → Act → World → Prop} {E : Prop} (hgd : o.guard = none) (s x : Operand) (t : TypeId)
    (ho : o.op = .call { callee := .builtin .append, args := #[s, x], argTypes := #[t, t] }) (hty : o.type = t)
    (v y : Value) (hs : a.eval s = v) (hx : a.eval x = y) (R : Value → World → Prop) (hrun : ∃ v' w', (Builtin.append_ #[t, t] t #[v, y]).run P w = .ok v' w' ∧ R v' w')
    (hK : ∀ v' w', R v' w' → K (a.put o.dst v') w') : if Region.wanted o (yielded ops a.tmps) = true then Oper.wp P o a w K Q else E := by
  obtain ⟨v', w', hrun, hR⟩ := hrun
  have hw : Region.wanted o (yielded ops a.tmps) = true := by simp [Region.wanted, hgd]
  rw [if_pos hw]
  subst hty
  unfold Oper.wp
  simp [execOp, ho, resolve, invoke, builtin, hs, hx, hrun, Result.andThen]
  exact hK _ _ hR
def FT (B0 : Nat → Prop) (B : Nat) (V1 V2 : Value) (b : Nat) : Prop := (B0 b ∨ B ≤ b) ∧ V1.ownBlock ≠ some b ∧ V2.ownBlock ≠ some b
def TreeSt (B0 : Nat → Prop) (B : Nat) (w : World) (P1 : Option Addr) (q1 c1 : Nat) (P2 : Option Addr) (q2 c2 : Nat) (xs ys : List NV) (a p : Wood) : Prop :=
  w.ownsRow B 27 5 (.slice P1 q1 c1) q1 (cellsN xs) ∧ w.ownsRow B 27 5 (.slice P2 q2 c2) q2 (cellsN ys) ∧
  NodesIn (FT B0 B (.slice P1 q1 c1) (.slice P2 q2 c2)) w xs a ∧ NodesIn (FT B0 B (.slice P1 q1 c1) (.slice P2 q2 c2)) w ys p ∧
  ∀ b, (Value.slice P1 q1 c1).ownBlock = some b → (Value.slice P2 q2 c2).ownBlock ≠ some b
theorem push_at {w : World} {B : Nat} {P : Option Addr} {q pc : Nat} {xs : List NV} {x : NV} (h : w.ownsRow B 27 5 (.slice P q pc) q (cellsN xs)) {d : Nat} (hd : w.heap[d]? = some (.cells x.cells.toArray 27 (0, 0))) (hq : q ≤ 100000) (hb : B ≤ w.heap.size) :
    ∃ P' pc' w', (Builtin.append_ #[25, 25] 25 #[.slice P q pc, .slice (some ⟨d, 0, none⟩) 1 1]).run Tryz.prog w = .ok (.slice P' (q + 1) pc') w' ∧
      w'.ownsRow B 27 5 (.slice P' (q + 1) pc') (q + 1) (cellsN (xs ++ [x])) ∧ Below B w w' ∧ w.heap.size ≤ w'.heap.size ∧
      ∀ b, b < w.heap.size → (Value.slice P q pc).ownBlock ≠ some b → (Value.slice P' (q + 1) pc').ownBlock ≠ some b ∧ w'.heap[b]? = w.heap[b]? := by
  obtain ⟨i0, hi, hz0, hz1, hz2⟩ := info_parts info_node
  have hcells : ∀ j u, x.cells[j]? = some u → w.cell? ((⟨d, 0, none⟩ : Addr).add j) = some u := by
    intro j u hu
    rw [show (⟨d, 0, none⟩ : Addr).add j = ⟨d, 0 + j, none⟩ by unfold Addr.add; split <;> simp_all, cell_of_row w d (0 + j) _ 27 (0, 0) hd, Nat.zero_add]
    simpa using hu
  obtain ⟨V', w', h1, h2, h3, _, h4⟩ := run_append_own_at (P := Tryz.prog) w B 25 25 27 i0 _ 5 72 Tryz.underlying25 hi hz0 hz1 hz2 rfl (by decide) _ q _ h ⟨d, 0, none⟩ 1 1 x.cells rfl hcells x.cells_one (by unfold maxLen; omega) (by omega) hb
  have hb' : Below B w w' := (Below.refl _ _).grown h3 hb (by intro k hk; exact (row_lt h hk).1)
  have key : ∀ b, b < w.heap.size → (Value.slice P q pc).ownBlock ≠ some b → V'.ownBlock ≠ some b ∧ w'.heap[b]? = w.heap[b]? := by
    intro b hlt hne
    refine ⟨fun e => ?_, h3.block b hlt fun e => hne e.symm⟩
    rcases h4 with h4 | h4
    · exact hne (h4 ▸ e)
    · rw [h4] at e
      injection e with e
      omega
  have e : cellsN xs ++ x.cells = cellsN (xs ++ [x]) := by rw [cellsN_append]; simp [cellsN]
  rw [e] at h2
  rcases h2.2 with ⟨rfl, h0⟩ | ⟨b, cap, cu, rfl, _⟩
  · omega
  · exact ⟨_, _, w', h1, h2, hb', h3.size, key⟩
section
variable {B0 : Nat → Prop} {B : Nat} {w X : World} {P1 P2 : Option Addr} {q1 c1 q2 c2 : Nat} {xs ys : List NV} {a p n : Wood} {x : NV}
theorem TreeSt.below (h : TreeSt B0 B w P1 q1 c1 P2 q2 c2 xs ys a p) (hb : Below w.heap.size w X) : TreeSt B0 B X P1 q1 c1 P2 q2 c2 xs ys a p :=
  ⟨row_keep h.1 fun k hk _ => hb.block k hk, row_keep h.2.1 fun k hk _ => hb.block k hk, h.2.2.1.move hb.size fun b hF hlt => ⟨hF, hb.block b hlt⟩, h.2.2.2.1.move hb.size fun b hF hlt => ⟨hF, hb.block b hlt⟩, h.2.2.2.2⟩
theorem TreeSt.start (B0 : Nat → Prop) (B : Nat) (w : World) : TreeSt B0 B w none 0 0 none 0 0 [] [] .nil .nil := ⟨nilN _ _, nilN _ _, trivial, trivial, fun b h => by cases h⟩
theorem TreeSt.push2 (h : TreeSt B0 B w P1 q1 c1 P2 q2 c2 xs ys a p) {d : Nat} (hd : w.heap[d]? = some (.cells x.cells.toArray 27 (0, 0))) (hx : NodesIn (FT B0 B (.slice P1 q1 c1) (.slice P2 q2 c2)) w [x] n) (hq : q2 ≤ 100000) (hB : B ≤ w.heap.size) :
    ∃ P' pc' w', (Builtin.append_ #[25, 25] 25 #[.slice P2 q2 c2, .slice (some ⟨d, 0, none⟩) 1 1]).run Tryz.prog w = .ok (.slice P' (q2 + 1) pc') w' ∧
      TreeSt B0 B w' P1 q1 c1 P' (q2 + 1) pc' xs (ys ++ [x]) a (p.app n) ∧ Below B w w' := by
  obtain ⟨P', pc', w', h1, h2, h3, hs, h4⟩ := push_at h.2.1 hd hq hB
  have key : ∀ b, FT B0 B (.slice P1 q1 c1) (.slice P2 q2 c2) b → b < w.heap.size → FT B0 B (.slice P1 q1 c1) (.slice P' (q2 + 1) pc') b ∧ w'.heap[b]? = w.heap[b]? := fun b hF hlt => by
    obtain ⟨k1, k2⟩ := h4 b hlt hF.2.2
    exact ⟨⟨hF.1, hF.2.1, k1⟩, k2⟩
  refine ⟨P', pc', w', h1, ⟨row_keep h.1 fun k hk hv => (h4 k hk (h.2.2.2.2 k hv)).2, h2, h.2.2.1.move hs key, (h.2.2.2.1.move hs key).app (hx.move hs key), fun b hv => ?_⟩, h3⟩
  exact (h4 b (row_lt h.1 hv).2 (h.2.2.2.2 b hv)).1
theorem TreeSt.push1 (h : TreeSt B0 B w P1 q1 c1 P2 q2 c2 xs ys a p) {d : Nat} (hd : w.heap[d]? = some (.cells x.cells.toArray 27 (0, 0))) (hx : NodesIn (fun b => (B0 b ∨ B ≤ b) ∧ (Value.slice P1 q1 c1).ownBlock ≠ some b) w [x] n) (hq : q1 ≤ 100000) (hB : B ≤ w.heap.size) :
    ∃ P' pc' w', (Builtin.append_ #[25, 25] 25 #[.slice P1 q1 c1, .slice (some ⟨d, 0, none⟩) 1 1]).run Tryz.prog w = .ok (.slice P' (q1 + 1) pc') w' ∧
      TreeSt B0 B w' P' (q1 + 1) pc' none 0 0 (xs ++ [x]) [] (a.app n) .nil ∧ Below B w w' := by
  obtain ⟨P', pc', w', h1, h2, h3, hs, h4⟩ := push_at h.1 hd hq hB
  have key : ∀ b, ((B0 b ∨ B ≤ b) ∧ (Value.slice P1 q1 c1).ownBlock ≠ some b) → b < w.heap.size → FT B0 B (.slice P' (q1 + 1) pc') (.slice none 0 0) b ∧ w'.heap[b]? = w.heap[b]? := fun b hF hlt => by
    obtain ⟨k1, k2⟩ := h4 b hlt hF.2
    exact ⟨⟨hF.1, k1, fun e => by cases e⟩, k2⟩
  exact ⟨P', pc', w', h1, ⟨h2, nilN _ _, (h.2.2.1.move hs fun b hF hlt => key b ⟨hF.1, hF.2.1⟩ hlt).app (hx.move hs key), trivial, fun b hv e => by cases e⟩, h3⟩
end
theorem cell1_res {fn : Func} {p : Tmp} {ty : TypeId} (h : fn.results = #[.cell p ty]) (tmps : Array Value) (P : Program) (w : World) :
    (results fn tmps).run P w = ((asAddr (tmps.getD p undef)).run P w).andThen fun a w₁ => (loadVar ty a).run P w₁ := by
  simp only [results, h]
  simp [Sem.run_bind, Result.andThen]
set_option maxHeartbeats 1000000 in
theorem rone_any (op : Int) {w : World} {B : Nat} {P : Option Addr} {q pc : Nat} {xs : List NV} {T : Wood} {F F' : Nat → Prop} (h : w.ownsRow B 27 5 (.slice P q pc) q (cellsN xs)) (hT : NodesIn F w xs T) (hF : ∀ b, F b → F' b) (hV : ∀ b, (Value.slice P q pc).ownBlock = some b → F' b) (hq : q ≤ 100000) :
    Calls Tryz.prog 35 #[.int .i64 op, .slice P q pc] w fun e w' => ∃ v, e = .returned v ∧ NodeIn F' w' v (oneN op T) ∧ Below w.heap.size w w' := by
  have hl := hT.len
  have hq1 : xs.length = q := by have := h.1; rw [cellsN_length] at this; omega
  rcases Nat.lt_trichotomy q 1 with h0 | h0 | h0
  · have h0 : q = 0 := by omega
    subst h0
    have hx : xs = [] := List.eq_nil_of_length_eq_zero hq1
    subst hx
    have hTn : T = .nil := by
      match T, hT with
      | .nil, _ => rfl
    subst hTn
    clear h hT hl hq1
    go_enter Tryz.func35, Tryz.ntmps35
    go_wp2
    refine bodyPost_ret (v := .agg #[.int .i64 0, .slice none 0 0, .int .i64 0, .int .i64 0, .slice none 0 0]) ?_ rfl ⟨_, rfl, node_leaf _ _ 0, by go_grown⟩
    rw [cell1_res rfl]; go_simp
  · subst h0
    obtain ⟨b, rfl, hB, hb, -, -, -, hc⟩ := row_cellsN h (by omega)
    rcases xs with _ | ⟨x, _ | ⟨y, xs⟩⟩
    · simp at hq1
    · have HC := fun i v hv => hc 0 x rfl i v hv
      have c0 := HC 0 _ rfl
      have c1 := HC 1 _ rfl
      have c2 := HC 2 _ rfl
      have c3 := HC 3 _ rfl
      have c4 := HC 4 _ rfl
      have HN := Lib.hid (hT.move (F' := F') (Nat.le_refl _) (fun b hF' _ => ⟨hF b hF', rfl⟩)).one
      have hon : oneN op T = T := oneN_one (by rw [hl]; rfl)
      rw [hon]
      simp only [Nat.zero_mul, Nat.zero_add, Nat.add_zero] at c0 c1 c2 c3 c4
      have up : ∀ (j : Nat) (v : Value) (o : Obj), w.cell? ⟨b, j, none⟩ = some v → (w.alloc o).cell? ⟨b, j, none⟩ = some v := fun j v o h => (((Below.refl w.heap.size w).alloc (Nat.le_refl _) o).cell (p := ⟨b, j, none⟩) hb).trans h
      have d0 := fun o => up _ _ o c0
      have d1 := fun o => up _ _ o c1
      have d2 := fun o => up _ _ o c2
      have d3 := fun o => up _ _ o c3
      have d4 := fun o => up _ _ o c4
      clear h hT hl hq1 hc HC hon up hF hV
      go_enter Tryz.func35, Tryz.ntmps35
      go_wp2
      refine bodyPost_ret (v := x.val) ?_ rfl ⟨_, rfl, HN.out.below (by go_grown), by go_grown⟩
      rw [cell1_res rfl]; go_simp
      rfl
    · simp at hq1
  · obtain ⟨b, rfl, hB, hb, -, hqpc, -, hc⟩ := row_cellsN h (by omega)
    have hon : oneN op T = .cons op [] 0 0 T .nil := oneN_more (by omega)
    have HN := Lib.hid (show NodeIn F' w (.agg #[.int .i64 op, .slice none 0 0, .int .i64 0, .int .i64 0, .slice (some ⟨b, 0, none⟩) q pc]) (oneN op T) by
      rw [hon]
      exact ⟨op, [], 0, 0, T, none, some ⟨b, 0, none⟩, 0, 0, q, pc, rfl, rfl, ⟨rowF_nil _ w, hqpc⟩, by omega, fun _ => ⟨b, 0, rfl, hV b rfl, hb, ((hT.move (F' := F') (Nat.le_refl _) (fun b hF' _ => ⟨hF b hF', rfl⟩)).wood hc)⟩⟩)
    have n0 : ((q : Int) == 0) = false := by simp; omega
    have n1 : ((q : Int) == 1) = false := by simp; omega
    clear h hT hl hq1 hc hon hF hV hqpc
    go_enter Tryz.func35, Tryz.ntmps35
    go_wp2
    refine bodyPost_ret (v := .agg #[.int .i64 op, .slice none 0 0, .int .i64 0, .int .i64 0, .slice (some ⟨b, 0, none⟩) q pc]) ?_ rfl ⟨_, rfl, HN.out.below (by go_grown), by go_grown⟩
    rw [cell1_res rfl]; go_simp
end Go.Proofs.YtaapbmdojkjphaaGreat
namespace Go.Proofs.YtaapbmdojkjphaaGreat
open Go Go.RowKit
set_option linter.unusedVariables false
set_option maxRecDepth 20000
theorem NodesIn.last {F : Nat → Prop} {w : World} {y : NV} : ∀ {zs : List NV} {T : Wood}, NodesIn F w (zs ++ [y]) T → ∃ T0 n0, T = T0.app n0 ∧ NodesIn F w zs T0 ∧ NodesIn F w [y] n0
  | [], T, h => ⟨.nil, T, rfl, trivial, h⟩
  | x :: zs, .cons op s mn mx k t, ⟨h1, h2, h3, h4⟩ => by
    obtain ⟨T0, n0, e, k1, k2⟩ := NodesIn.last (zs := zs) h4
    exact ⟨.cons op s mn mx k T0, n0, by rw [e]; rfl, ⟨h1, h2, h3, k1⟩, k2⟩
  | x :: zs, .nil, h => h.elim
def repN (c : Nat) (mn mx : Int) : NV := ⟨6, none, 0, 0, mn, mx, some ⟨c, 0, none⟩, 1, 1⟩
def TakeR (w0 : World) (z : Nat) (zs : List NV) (g : Nat) (X : World) (v' : Value) (w' : World) : Prop :=
  ∃ P' pc', v' = .slice P' z pc' ∧ w'.ownsRow w0.heap.size 27 5 (.slice P' z pc') z (cellsN zs) ∧ Below w0.heap.size w0 w' ∧ X.heap.size ≤ w'.heap.size ∧ ∀ b, b < X.heap.size → b ≠ g → w'.heap[b]? = X.heap[b]? ∧ (Value.slice P' z pc').ownBlock ≠ some b
theorem take_ex {w0 X : World} {z q2 c2 b2 g : Nat} {zs : List NV} (hz : zs.length = z) (hzb : z ≤ 100000) (hb2 : b2 < w0.heap.size) (hc : ∀ j x, zs[j]? = some x → ∀ i v, x.cells[i]? = some v → w0.cell? ⟨b2, 0 + j * 5 + i, none⟩ = some v)
    (hX : Below w0.heap.size w0 X) (hg : X.heap[g]? = some (.cells #[] 27 (0, 0))) (hg0 : w0.heap.size ≤ g) :
    ∃ v' w', (Builtin.append_ #[25, 25] 25 #[.slice (some ⟨g, 0, none⟩) 0 0, .slice (some ⟨b2, 0, none⟩) z c2]).run Tryz.prog X = .ok v' w' ∧ TakeR w0 z zs g X v' w' := by
  obtain ⟨i0, hi, hz0, hz1, hz2⟩ := info_parts info_node
  have hgl : g < X.heap.size := (Array.getElem?_eq_some_iff.1 hg).1
  have hown : X.ownsRow w0.heap.size 27 5 (.slice (some ⟨g, 0, none⟩) 0 0) 0 (cellsN []) := ⟨rfl, .inr ⟨g, 0, #[], rfl, hg0, hg, Nat.le_refl _, by unfold maxLen; omega, rfl, rfl⟩⟩
  have hcells : ∀ j u, (cellsN zs)[j]? = some u → X.cell? ((⟨b2, 0, none⟩ : Addr).add j) = some u := by
    intro j u hu
    have hj : j < zs.length * 5 := by have := (List.getElem?_eq_some_iff.1 hu).1; rwa [cellsN_length] at this
    obtain ⟨x, hx⟩ : ∃ x, zs[j / 5]? = some x := ⟨_, List.getElem?_eq_getElem (by omega)⟩
    have hx5 : j % 5 < x.cells.length := by show j % 5 < 5; omega
    have h1 := cellsN_at zs (j / 5) x hx (j % 5) x.cells[j % 5] (List.getElem?_eq_getElem hx5)
    rw [show j / 5 * 5 + j % 5 = j by omega, hu] at h1
    injection h1 with h1
    have h2 := hc (j / 5) x hx (j % 5) x.cells[j % 5] (List.getElem?_eq_getElem hx5)
    rw [show (⟨b2, 0, none⟩ : Addr).add j = ⟨b2, 0 + (j / 5) * 5 + j % 5, none⟩ by rw [show 0 + j / 5 * 5 + j % 5 = j by omega]; unfold Addr.add; split <;> simp_all, hX.cell (p := ⟨b2, 0 + (j / 5) * 5 + j % 5, none⟩) hb2, h2, h1]
  obtain ⟨V', w', h1, h2, h3, _, h4⟩ := run_append_own_at (P := Tryz.prog) X w0.heap.size 25 25 27 i0 _ 5 72 Tryz.underlying25 hi hz0 hz1 hz2 rfl (by decide) _ 0 _ hown ⟨b2, 0, none⟩ z c2 (cellsN zs) (by rw [cellsN_length, hz]) hcells
    (by intro u hu; obtain ⟨p, _, hp⟩ := List.mem_flatMap.1 hu; exact p.cells_one u hp) (by unfold maxLen; omega) (by omega) hX.size
  have hb' : Below w0.heap.size w0 w' := hX.grown h3 hX.size (by intro k hk; exact (row_lt hown hk).1)
  rw [Nat.zero_add] at h2
  have key : ∀ b, b < X.heap.size → b ≠ g → w'.heap[b]? = X.heap[b]? ∧ V'.ownBlock ≠ some b := fun b hlt hne => by
    refine ⟨h3.block b hlt fun e => ?_, fun e => ?_⟩
    · injection e with e; exact hne e
    · rcases h4 with h4 | h4
      · rw [h4] at e; injection e with e; exact hne e.symm
      · rw [h4] at e; injection e with e; omega
  rcases h2.2 with ⟨rfl, h0⟩ | ⟨b, cap, cu, rfl, _⟩
  · subst h0
    exact ⟨_, w', h1, none, 0, rfl, h2, hb', h3.size, key⟩
  · exact ⟨_, w', h1, _, _, rfl, h2, hb', h3.size, key⟩
def RepR (B0 : Nat → Prop) (B : Nat) (wr w0 : World) (P1 : Option Addr) (q1 c1 z : Nat) (xs zs : List NV) (a p' : Wood) (v' : Value) (w' : World) : Prop :=
  ∃ P' pc' c mn mx, v' = .slice P' (z + 1) pc' ∧ TreeSt B0 B w' P1 q1 c1 P' (z + 1) pc' xs (zs ++ [repN c mn mx]) a p' ∧ Below B wr w' ∧ Below w0.heap.size w0 w'
theorem rep_ex {B0 : Nat → Prop} {B : Nat} {wr w0 X : World} {P1 P2 P' : Option Addr} {q1 c1 q2 c2 z pc' c d : Nat} {xs zs : List NV} {y : NV} {a T0 n0 : Wood} {mn mx : Int} (h : TreeSt B0 B wr P1 q1 c1 P2 q2 c2 xs (zs ++ [y]) a (T0.app n0)) (h0 : NodesIn (FT B0 B (.slice P1 q1 c1) (.slice P2 q2 c2)) wr zs T0) (hy : NodesIn (FT B0 B (.slice P1 q1 c1) (.slice P2 q2 c2)) wr [y] n0)
    (hB : B ≤ wr.heap.size) (hw0 : Below wr.heap.size wr w0) (hX : Below w0.heap.size w0 X) (hown : X.ownsRow w0.heap.size 27 5 (.slice P' z pc') z (cellsN zs)) (hz : z ≤ 100000) (hc : X.heap[c]? = some (.cells y.cells.toArray 27 (0, 0))) (hc0 : w0.heap.size ≤ c) (hcn : (Value.slice P' z pc').ownBlock ≠ some c) (hd : X.heap[d]? = some (.cells (repN c mn mx).cells.toArray 27 (0, 0))) :
    ∃ v' w', (Builtin.append_ #[25, 25] 25 #[.slice P' z pc', .slice (some ⟨d, 0, none⟩) 1 1]).run Tryz.prog X = .ok v' w' ∧ RepR B0 B wr w0 P1 q1 c1 z xs zs a (T0.app (.cons 6 [] mn mx n0 .nil)) v' w' := by
  obtain ⟨P'', pc'', w', h1, h2, h3, hs, key⟩ := push_at hown hd hz hX.size
  have hcl : c < X.heap.size := (Array.getElem?_eq_some_iff.1 hc).1
  have hsw := hw0.size
  have old : ∀ b, b < wr.heap.size → (Value.slice P'' (z + 1) pc'').ownBlock ≠ some b ∧ w'.heap[b]? = wr.heap[b]? := fun b hlt => by
    obtain ⟨k1, k2⟩ := key b (by have := hX.size; omega) (fun e => by have := (row_lt hown e).1; omega)
    exact ⟨k1, k2.trans ((hX.block b (by omega)).trans (hw0.block b hlt))⟩
  have hsz : wr.heap.size ≤ w'.heap.size := by have := hX.size; omega
  have mv : ∀ b, FT B0 B (.slice P1 q1 c1) (.slice P2 q2 c2) b → b < wr.heap.size → FT B0 B (.slice P1 q1 c1) (.slice P'' (z + 1) pc'') b ∧ w'.heap[b]? = wr.heap[b]? := fun b hF hlt => ⟨⟨hF.1, hF.2.1, (old b hlt).1⟩, (old b hlt).2⟩
  obtain ⟨kc1, kc2⟩ := key c hcl hcn
  have hcw : w'.heap[c]? = some (.cells y.cells.toArray 27 (0, 0)) := kc2.trans hc
  have hn : NodesIn (FT B0 B (.slice P1 q1 c1) (.slice P'' (z + 1) pc'')) w' [repN c mn mx] (.cons 6 [] mn mx n0 .nil) := by
    refine ⟨⟨rfl, rfl, rfl⟩, ⟨rowF_nil _ _, Nat.le_refl 1⟩, ⟨hy.len, fun _ => ⟨c, 0, rfl, ⟨.inr (by omega), (fun e => by have := (row_lt h.1 e).2; omega), kc1⟩, by omega, (hy.move hsz mv).wood fun j x hx i v hv => ?_⟩⟩, trivial⟩
    rcases j with _ | j
    · simp only [List.getElem?_cons_zero, Option.some.injEq] at hx
      subst hx
      rw [Nat.zero_mul, Nat.add_zero, Nat.zero_add, cell_of_row _ c i _ _ (0, 0) hcw]
      simpa using hv
    · simp at hx
  refine ⟨_, w', h1, P'', pc'', c, mn, mx, rfl, ⟨row_keep h.1 fun k hk hv => (old k hk).2, row_base h2 fun j hj => by have := (row_lt h2 hj).1; omega, h.2.2.1.move hsz mv, (h0.move hsz mv).app hn, fun b hv => (old b (row_lt h.1 hv).2).1⟩, ?_⟩
  exact ⟨((hw0.mono hB).trans (hX.mono (by omega))).trans (h3.mono (by omega)), hX.trans h3⟩
theorem rep_at {B0 : Nat → Prop} {B : Nat} {wr w0 X : World} {P1 P2 P' : Option Addr} {q1 c1 q2 c2 z pc' d : Nat} {xs zs : List NV} {y : NV} {a T0 n0 : Wood} {mn mx : Int} (h : TreeSt B0 B wr P1 q1 c1 P2 q2 c2 xs (zs ++ [y]) a (T0.app n0)) (h0 : NodesIn (FT B0 B (.slice P1 q1 c1) (.slice P2 q2 c2)) wr zs T0) (hy : NodesIn (FT B0 B (.slice P1 q1 c1) (.slice P2 q2 c2)) wr [y] n0)
    (hB : B ≤ wr.heap.size) (hw0 : Below wr.heap.size wr w0) (hX : Below w0.heap.size w0 X) (hown : X.ownsRow w0.heap.size 27 5 (.slice P' z pc') z (cellsN zs)) (hz : z ≤ 100000)
    (hd : ∃ c, X.heap[d]? = some (.cells #[.int .i64 6, .slice none 0 0, .int .i64 mn, .int .i64 mx, .slice (some ⟨c, 0, none⟩) 1 1] 27 (0, 0)) ∧ X.heap[c]? = some (.cells #[.int .i64 y.op, .slice y.A y.ns y.cs, .int .i64 y.mn, .int .i64 y.mx, .slice y.D y.nk y.ck] 27 (0, 0)) ∧ w0.heap.size ≤ c ∧ (Value.slice P' z pc').ownBlock ≠ some c) :
    ∃ v' w', (Builtin.append_ #[25, 25] 25 #[.slice P' z pc', .slice (some ⟨d, 0, none⟩) 1 1]).run Tryz.prog X = .ok v' w' ∧ RepR B0 B wr w0 P1 q1 c1 z xs zs a (T0.app (.cons 6 [] mn mx n0 .nil)) v' w' := by
  obtain ⟨c, h1, h2, h3, h4⟩ := hd
  exact rep_ex h h0 hy hB hw0 hX hown hz h2 h3 h4 h1
theorem hp_new {w : World} {cs : Array Value} {ty : TypeId} {k : Nat} (h : k = w.heap.size) : (w.alloc (.cells cs ty)).heap[k]? = some (.cells cs ty (0, 0)) := by subst h; exact heap_alloc_new w _
theorem hp_old {w : World} {cs : Array Value} {ty : TypeId} {fr : Nat × Nat} {k : Nat} {o : Obj} (h : w.heap[k]? = some (.cells cs ty fr)) : (w.alloc o).heap[k]? = some (.cells cs ty fr) :=
  (Below.heap_alloc w o k (Array.getElem?_eq_some_iff.1 h).1).trans h
theorem hp_drew {w : World} {cs : Array Value} {ty : TypeId} {fr : Nat × Nat} {k : Nat} (h : w.heap[k]? = some (.cells cs ty fr)) : w.drew.heap[k]? = some (.cells cs ty fr) := h
theorem ownN_old {w : World} {B q n : Nat} {ty : TypeId} {v : Value} {l : List Value} {o : Obj} (h : w.ownsRow B ty q v n l) : (w.alloc o).ownsRow B ty q v n l := row_keep h fun k hk _ => Below.heap_alloc w o k hk
theorem ownN_drew {w : World} {B q n : Nat} {ty : TypeId} {v : Value} {l : List Value} (h : w.ownsRow B ty q v n l) : w.drew.ownsRow B ty q v n l := h
end Go.Proofs.YtaapbmdojkjphaaGreat
namespace Go.Proofs.YtaapbmdojkjphaaGreat
open Go Go.RowKit
set_option linter.unusedVariables false
set_option maxRecDepth 20000
def PutR (B g : Nat) (P : Option Addr) (q pc : Nat) (xs : List IV) (x : IV) (w : World) (v' : Value) (w' : World) : Prop :=
  ∃ P' pc', v' = .slice P' (q + 1) pc' ∧ w'.cell? ⟨g, 0, none⟩ = some (.slice P q pc) ∧ w'.frozen? ⟨g, 0, none⟩ = false ∧
    WrS B g (w'.setCell ⟨g, 0, none⟩ (.slice P' (q + 1) pc')) P' (q + 1) pc' (xs ++ [x]) ∧ Wk B g (.slice P q pc) w (w'.setCell ⟨g, 0, none⟩ (.slice P' (q + 1) pc')) ∧ Vk w (.slice P q pc) (.slice P' (q + 1) pc')
theorem put_ex {B g q pc : Nat} {w X : World} {P : Option Addr} {xs : List IV} {x : IV} (h : WrS B g w P q pc xs) (hx : RowF (FW B g (.slice P q pc)) w x.A x.n x.i.set) (hX : Below w.heap.size w X) {d : Nat} (hd : X.heap[d]? = some (.cells #[.int .i64 x.i.op, .slice x.A x.n x.c, .int .i64 x.i.x, .int .i64 x.i.y] 89 (0, 0))) (hq : q ≤ 50000) :
    ∃ v' w', (Builtin.append_ #[58, 58] 58 #[.slice P q pc, .slice (some ⟨d, 0, none⟩) 1 1]).run Tryz.prog X = .ok v' w' ∧ PutR B g P q pc xs x w v' w' := by
  obtain ⟨P', pc', w', h1, _, _, h2, h3, h4, h5, h6⟩ := (h.below hX).push hd (hx.below hX) (by omega)
  have hBw : B ≤ w.heap.size := by have := h.hB; have := h.lt; omega
  exact ⟨_, w', h1, P', pc', rfl, h2, h3, h4, (Wk.of_below hBw hX).trans (Vk.refl _ _) h5, fun b hb hn => h6.1 b (Nat.lt_of_lt_of_le hb hX.size) hn⟩
set_option maxHeartbeats 4000000 in
theorem wput_any {B g q pc : Nat} {w : World} {P : Option Addr} {xs : List IV} (h : WrS B g w P q pc xs) (op x0 y : Int) (A : Option Addr) (n c : Nat) (set : List (Int × Int)) (hx : RowF (FW B g (.slice P q pc)) w A n set) (hq : q ≤ 50000) :
    Calls Tryz.prog 66 #[.pointer (some ⟨g, 0, none⟩), .agg #[.int .i64 op, .slice A n c, .int .i64 x0, .int .i64 y]] w fun e w' => e = .returned (.tuple #[]) ∧ ∃ P' pc', WrS B g w' P' (q + 1) pc' (xs ++ [⟨⟨op, set, (q : Int) + 1, y⟩, A, n, c⟩]) ∧ Wk B g (.slice P q pc) w w' ∧ Vk w (.slice P q pc) (.slice P' (q + 1) pc') := by
  have hgl := h.lt
  have HS := Lib.hid h
  have HX := Lib.hid hx
  have hw : IntKind.i64.wrap ((q : Int) + 1) = (q : Int) + 1 := by rw [IntKind.wrap_i64]; omega
  have g0 : ∀ o, (w.alloc o).cell? ⟨g, 0, none⟩ = some (.slice P q pc) := fun o => cell_of_row _ g 0 _ _ (0, 0) ((Below.heap_alloc w o g hgl).trans h.hg)
  clear h hx
  go_enter Tryz.func66, Tryz.ntmps66
  go_wp2_with fail
  have HPu : Hid (∀ (X : World) (d : Nat), Below w.heap.size w X → X.heap[d]? = some (.cells #[.int .i64 op, .slice A n c, .int .i64 ((q : Int) + 1), .int .i64 y] 89 (0, 0)) → ∃ v' w', (Builtin.append_ #[58, 58] 58 #[.slice P q pc, .slice (some ⟨d, 0, none⟩) 1 1]).run Tryz.prog X = .ok v' w' ∧ PutR B g P q pc xs ⟨⟨op, set, (q : Int) + 1, y⟩, A, n, c⟩ w v' w') := Lib.hid fun X d hX hd => put_ex HS.out HX.out hX hd hq
  go_region_law (first | (refine step_append_ex rfl (.tmp 15) (.tmp 17) 58 rfl rfl _ _ (by rfl) (by rfl) _ (HPu.out _ _ (by first | exact ((Below.refl _ _).alloc (Nat.le_refl _) _).alloc (by simp) _ | exact ((((Below.refl _ _).alloc (Nat.le_refl _) _).drew).alloc (by simp) _) | exact (((Below.refl _ _).alloc (Nat.le_refl _) _).alloc (by simp) _).drew) (by first | exact hp_new (by simp) | exact hp_drew (hp_new (by simp)))) ?_; intro v' w' hR; obtain ⟨P', pc', rfl, hc1, hc2, hR1, hR2, hR3⟩ := hR))
  all_goals
    go_end0
    exact ⟨rfl, P', pc', hR1, hR2, hR3⟩
end Go.Proofs.YtaapbmdojkjphaaGreat
