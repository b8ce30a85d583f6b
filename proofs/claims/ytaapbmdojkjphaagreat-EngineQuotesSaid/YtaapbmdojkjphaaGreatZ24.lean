/- Texts. -/
import Derived.Test.YtaapbmdojkjphaaGreatZ02
import Derived.Test.YtaapbmdojkjphaaGreatZ04
import Derived.Test.YtaapbmdojkjphaaGreatZ11
import Derived.Test.YtaapbmdojkjphaaGreatZ13
import Derived.Test.YtaapbmdojkjphaaGreatZ23
import Derived.Laws.ResultCell
import Derived.BigQuiet
import Derived.Deep.Slices
import Derived.Deep.Fields
import Derived.ChangeSame
import Derived.OpenShut
import Derived.ProofKit
namespace Go.Proofs.YtaapbmdojkjphaaGreat
open Go Go.RowKit
set_option linter.unusedVariables false
set_option maxRecDepth 20000
theorem cell1_result {fn : Func} {p : Tmp} {ty : TypeId} (h : fn.results = #[.cell p ty]) (tmps : Array Value) (P : Program) (w : World) :
    (results fn tmps).run P w = ((asAddr (tmps.getD p undef)).run P w).andThen fun a w₁ => (loadVar ty a).run P w₁ := by
  simp only [results, h]
  simp [Sem.run_bind, Result.andThen]
theorem sign_yes (c : Int) (h : signB c = true) (w : World) : Calls Tryz.prog 146 #[.int .i64 c] w fun e w' => e = .returned (.bool true) ∧ w = w' := by
  unfold signB at h
  rw [decide_eq_true_iff] at h
  simp only [List.mem_cons, List.not_mem_nil, or_false] at h
  rcases h with rfl | rfl | rfl | rfl | rfl | rfl | rfl | rfl | rfl | rfl | rfl | rfl | rfl | rfl
  all_goals
    go_enter Tryz.func146, Tryz.ntmps146
    go_wp2
    go_ret
    exact ⟨rfl, rfl⟩
theorem sign_no (c : Int) (h : signB c = false) (w : World) : Calls Tryz.prog 146 #[.int .i64 c] w fun e w' => e = .returned (.bool false) ∧ w = w' := by
  unfold signB at h
  rw [decide_eq_false_iff_not] at h
  simp only [List.mem_cons, List.not_mem_nil, or_false, not_or] at h
  obtain ⟨h1, h2, h3, h4, h5, h6, h7, h8, h9, h10, h11, h12, h13, h14⟩ := h
  go_enter Tryz.func146, Tryz.ntmps146
  go_wp2
  go_ret
  exact ⟨rfl, rfl⟩
theorem sign_any (c : Int) (w : World) : Calls Tryz.prog 146 #[.int .i64 c] w fun e w' => e = .returned (.bool (signB c)) ∧ w = w' := by
  cases h : signB c with
  | true => exact sign_yes c h w
  | false => exact sign_no c h w
def itselfL (c : Int) : Int × Bool := if c = 110 then (10, true) else if c = 114 then (13, true) else if c = 116 then (9, true) else (c, decide (c = 45) || signB c)
theorem itself_any (c : Int) (w : World) : Calls Tryz.prog 145 #[.int .i64 c] w fun e w' => e = .returned (.tuple #[.int .i64 (itselfL c).1, .bool (itselfL c).2]) ∧ w = w' := by
  have HS := Lib.hid fun w => sign_any c w
  unfold itselfL
  by_cases h1 : c = 110
  · subst h1
    go_enter Tryz.func145, Tryz.ntmps145
    go_wp2
    go_ret2
    exact ⟨rfl, rfl⟩
  by_cases h2 : c = 114
  · subst h2
    go_enter Tryz.func145, Tryz.ntmps145
    go_wp2
    go_ret2
    exact ⟨rfl, rfl⟩
  by_cases h3 : c = 116
  · subst h3
    go_enter Tryz.func145, Tryz.ntmps145
    go_wp2
    go_ret2
    exact ⟨rfl, rfl⟩
  rw [if_neg h1, if_neg h2, if_neg h3]
  by_cases h4 : c = 45
  · subst h4
    clear HS h1 h2 h3
    go_enter Tryz.func145, Tryz.ntmps145
    go_wp2
    go_ret2
    exact ⟨rfl, rfl⟩
  · have h5 : (c == 45) = false := by simpa using h4
    generalize hs : signB c = s at *
    rw [decide_eq_false h4, Bool.false_or]
    clear hs h4
    go_enter Tryz.func145, Tryz.ntmps145
    go_wp2_with (go_at_call 146; (with_reducible refine (HS.out _).mono ?_); rintro e w1 ⟨rfl, rfl⟩)
    go_ret2
    exact ⟨rfl, rfl⟩
theorem one_any (c : Int) (w : World) : Calls Tryz.prog 143 #[.int .i64 c] w fun e w' => e = .returned (.agg #[.int .i64 c, .int .i64 c]) ∧ Below w.heap.size w w' := by
  go_enter Tryz.func143, Tryz.ntmps143
  go_wp2
  refine bodyPost_ret (v := .agg #[.int .i64 c, .int .i64 c]) ?_ rfl ⟨rfl, by go_grown⟩
  rw [cell1_result rfl]; go_simp
theorem char_any (A : Option Addr) (n c : Nat) (w : World) : Calls Tryz.prog 140 #[.slice A n c] w fun e w' => e = .returned (.agg #[.int .i64 1, .slice A n c, .int .i64 0, .int .i64 0, .slice none 0 0]) ∧ Below w.heap.size w w' := by
  go_enter Tryz.func140, Tryz.ntmps140
  go_wp2
  refine bodyPost_ret (v := .agg #[.int .i64 1, .slice A n c, .int .i64 0, .int .i64 0, .slice none 0 0]) ?_ rfl ⟨rfl, by go_grown⟩
  rw [cell1_result rfl]; go_simp
theorem escL_itself {c x : Int} (h : itselfL c = (x, true)) : escL c = some ([(x, x)], true) := by
  unfold itselfL at h
  unfold escL
  split at h
  · rename_i hc; subst hc; injection h with h _; subst h; rfl
  split at h
  · rename_i hc; subst hc; injection h with h _; subst h; rfl
  split at h
  · rename_i hc; subst hc; injection h with h _; subst h; rfl
  · injection h with h1 h2
    subst h1
    rw [Bool.or_eq_true, decide_eq_true_iff] at h2
    unfold signB at h2
    rw [decide_eq_true_iff] at h2
    simp only [List.mem_cons, List.not_mem_nil, or_false] at h2
    rw [if_neg (by omega), if_neg (by omega), if_neg (by omega), if_neg (by omega), if_neg (by omega), if_pos]
    simp only [signL, List.mem_cons, List.not_mem_nil, or_false]
    omega
def letterB (c : Int) : Bool := decide (c = 100 ∨ c = 119 ∨ c = 115 ∨ c = 68 ∨ c = 87 ∨ c = 83)
theorem escL_none {c x : Int} (h : itselfL c = (x, false)) (hl : letterB c = false) : escL c = none := by
  unfold letterB at hl
  rw [decide_eq_false_iff_not] at hl
  unfold itselfL at h
  unfold escL
  split at h
  · cases h
  split at h
  · cases h
  split at h
  · cases h
  · injection h with h1 h2
    subst h1
    rw [Bool.or_eq_false_iff, decide_eq_false_iff_not] at h2
    unfold signB at h2
    rw [decide_eq_false_iff_not] at h2
    simp only [List.mem_cons, List.not_mem_nil, or_false, not_or] at h2
    rw [if_neg (by omega), if_neg (by omega), if_neg (by omega), if_neg (by omega), if_neg (by omega), if_neg]
    simp only [signL, List.mem_cons, List.not_mem_nil, or_false]
    omega
theorem escL_letter {c : Int} (h : letterB c = true) : ∃ s, escL c = some (s, false) := by
  unfold letterB at h
  rw [decide_eq_true_iff] at h
  unfold escL
  by_cases h1 : c = 100 ∨ c = 119 ∨ c = 115
  · rw [if_pos h1]; exact ⟨_, rfl⟩
  · rw [if_neg h1, if_pos (by omega)]; exact ⟨_, rfl⟩
end Go.Proofs.YtaapbmdojkjphaaGreat
namespace Go.Proofs.YtaapbmdojkjphaaGreat
open Go Go.RowKit Go.ChangeShapes Go.WideShapes Go.ChangeAt
set_option linter.unusedVariables false
set_option maxRecDepth 20000
def InG (w : World) (A : Option Addr) (n c : Nat) (s : List (Int × Int)) : Prop :=
  RowG w A n s ∧ n ≤ c ∧ c ≤ maxLen ∧ (A = none → n = 0 ∧ c = 0) ∧ ∀ p ∈ s, (Lit.int .i64 p.1).wf = true ∧ (Lit.int .i64 p.2).wf = true
end Go.Proofs.YtaapbmdojkjphaaGreat
namespace Go.Proofs.YtaapbmdojkjphaaGreat
open Go Go.RowKit
set_option linter.unusedVariables false
set_option maxRecDepth 20000
def OutG (W w' : World) (V : Value) (t : List (Int × Int)) : Prop := w'.ownsRow W.heap.size 74 2 V t.length (cellsG t) ∧ Below W.heap.size W w'
def inR (r : Int) : Bool := decide (0 ≤ r ∧ r ≤ 1114111)
theorem CanonF.wf : ∀ {s : List (Int × Int)} {lo : Int}, 0 ≤ lo → CanonF lo s → ∀ p ∈ s, 0 ≤ p.1 ∧ p.1 ≤ p.2 ∧ p.2 ≤ 1114111
  | [], _, _, _, _, hp => by cases hp
  | q :: s, lo, h0, ⟨h1, h2, h3, h4⟩, p, hp => by
    rcases List.mem_cons.1 hp with rfl | hp
    · exact ⟨by omega, h2, h3⟩
    · exact CanonF.wf (by omega) h4 p hp
theorem CanonF.len : ∀ {s : List (Int × Int)} {lo : Int}, 0 ≤ lo → CanonF lo s → 2 * (s.length : Int) + lo ≤ 1114113 + lo % 1 ∨ s = []
  | [], _, _, _ => .inr rfl
  | q :: s, lo, h0, ⟨h1, h2, h3, h4⟩ => by
    left
    rcases CanonF.len (by omega) h4 with h | h
    · rw [List.length_cons]; omega
    · rw [h]; simp; omega
theorem Canon.small {s : List (Int × Int)} (h : Canon s) : s.length ≤ 600000 := by
  rcases CanonF.len (Int.le_refl _) h with h1 | h1
  · omega
  · rw [h1]; simp
theorem wf_small {x : Int} (h : -1000000000 ≤ x ∧ x ≤ 1000000000) : (Lit.int .i64 x).wf = true := by
  simp [Lit.wf, IntKind.min, IntKind.max, IntKind.signed, IntKind.bits]
  omega
theorem Canon.wf {s : List (Int × Int)} (h : Canon s) : ∀ p ∈ s, (Lit.int .i64 p.1).wf = true ∧ (Lit.int .i64 p.2).wf = true := fun p hp => by
  have := CanonF.wf (Int.le_refl _) h p hp
  exact ⟨wf_small (by omega), wf_small (by omega)⟩
theorem inG_of_own {w : World} {B : Nat} {V : Value} {s : List (Int × Int)} (h : w.ownsRow B 74 2 V s.length (cellsG s)) (hw : ∀ p ∈ s, (Lit.int .i64 p.1).wf = true ∧ (Lit.int .i64 p.2).wf = true) : ∃ A c, V = .slice A s.length c ∧ InG w A s.length c s := by
  obtain ⟨A, c, rfl, h1, h2, h3⟩ := rowG_of_own h rfl
  refine ⟨A, c, rfl, h1, h2, h3, fun hA => ?_, hw⟩
  rcases h.2 with ⟨e, h0⟩ | ⟨g, cap, cur, e, _⟩
  · injection e with e1 e2 e3
    exact ⟨h0, e3⟩
  · injection e with e1 _ _
    rw [hA] at e1
    cases e1
section
variable {w w' : World} {A : Option Addr} {n c : Nat} {s : List (Int × Int)}
theorem InG.below (h : InG w A n c s) (hb : Below w.heap.size w w') : InG w' A n c s := ⟨h.1.below hb (Nat.le_refl _), h.2⟩
theorem InG.row (h : InG w A n c s) : RowG w A n s := h.1
theorem InG.drewN (h : InG w A n c s) (q : Nat) : InG (w.drewN q) A n c s := ⟨h.1.drewN q, h.2⟩
end
theorem canon_out {W w' : World} {V : Value} {t : List (Int × Int)} (h : OutG W w' V t) (hc : Canon t) : ∃ A c, V = .slice A t.length c ∧ InG w' A t.length c t ∧ t.length ≤ 600000 := by
  obtain ⟨A, c, h1, h2⟩ := inG_of_own h.1 hc.wf
  exact ⟨A, c, h1, h2, hc.small⟩
def digitL (r : Int) : Bool := decide (48 ≤ r) && decide (r ≤ 57)
def wordL (r : Int) : Bool := digitL r || (decide (65 ≤ r) && decide (r ≤ 90)) || (decide (97 ≤ r) && decide (r ≤ 122)) || r == 95
def spaceL (r : Int) : Bool := r == 32 || (decide (9 ≤ r) && decide (r ≤ 13))
def namedL (c r : Int) : Bool × Bool :=
  if c = 100 then (digitL r, true) else if c = 119 then (wordL r, true) else if c = 115 then (spaceL r, true)
  else if c = 68 then (!digitL r, true) else if c = 87 then (!wordL r, true) else if c = 83 then (!spaceL r, true) else (false, false)
end Go.Proofs.YtaapbmdojkjphaaGreat
namespace Go.Proofs.YtaapbmdojkjphaaGreat
open Go Go.RowKit
set_option linter.unusedVariables false
set_option maxRecDepth 20000
structure FacesS : Prop where
  of : ∀ (w : World) (A : Option Addr) (n c : Nat) (s : List (Int × Int)), RowG w A n s → n ≤ 1000000 →
    Calls Tryz.prog 107 #[.slice A n c] w fun e w' => ∃ V t, e = .returned V ∧ OutG w w' V t ∧ Canon t ∧ ∀ r, hasL t r = hasL s r
  no : ∀ (w : World) (A : Option Addr) (n c : Nat) (s : List (Int × Int)), RowG w A n s → n ≤ 1000000 →
    Calls Tryz.prog 142 #[.slice A n c] w fun e w' => ∃ V t, e = .returned V ∧ OutG w w' V t ∧ Canon t ∧ ∀ r, hasL t r = (inR r && !hasL s r)
  named : ∀ (w : World) (c : Int), 0 ≤ c → c < 256 →
    Calls Tryz.prog 154 #[.int .u8 c] w fun e w' => ∃ V t, e = .returned (.tuple #[V, .bool (namedL c 0).2]) ∧ OutG w w' V t ∧ Canon t ∧ ((namedL c 0).2 = false → t = []) ∧ ((namedL c 0).2 = true → ∀ r, hasL t r = (inR r && (namedL c r).1))
  noName : ∀ (c : Int), 0 ≤ c → c < 256 → (c ≠ 119 ∧ c ≠ 100 ∧ c ≠ 115 ∧ c ≠ 87 ∧ c ≠ 68 ∧ c ≠ 83) → ∀ (w : World),
    Calls Tryz.prog 154 #[.int .u8 c] w fun e w' => e = .returned (.tuple #[.slice none 0 0, .bool false]) ∧ w = w'
theorem setOf_of {t : List (Int × Int)} {f : Int → Bool} (hc : Canon t) (h : ∀ r, hasL t r = (inR r && f r)) : t = setOf f := setOf_one hc h
theorem hasL_inR (s : List (Int × Int)) (r : Int) : hasL s r = (inR r && hasL s r) := by
  cases h : hasL s r with
  | false => rw [Bool.and_false]
  | true => have := hasL_in h; unfold inR; rw [decide_eq_true (by omega)]; rfl
theorem letter_set {c : Int} {t : List (Int × Int)} (h : letterB c = true) (hc : Canon t) (hm : ∀ r, hasL t r = (inR r && (namedL c r).1)) : escL c = some (t, false) := by
  unfold letterB at h
  rw [decide_eq_true_iff] at h
  have key : ∀ (r : Int), hasL t r = (inR r && hasL t r) := fun r => hasL_inR t r
  have D : ∀ r, digitL r = hasL (namedS 100) r := fun r => by
    unfold digitL namedS
    rw [if_pos rfl, Bool.eq_iff_iff]
    simp [hasL, List.any]; omega
  have W : ∀ r, (inR r && wordL r) = (inR r && hasL (namedS 119) r) := fun r => by
    unfold wordL digitL namedS inR
    rw [if_neg (by decide), if_pos rfl, Bool.eq_iff_iff]
    simp [hasL, List.any]; omega
  have S : ∀ r, (inR r && spaceL r) = (inR r && hasL (namedS 115) r) := fun r => by
    unfold spaceL namedS inR
    rw [if_neg (by decide), if_neg (by decide), if_pos rfl, Bool.eq_iff_iff]
    simp [hasL, List.any]; omega
  have C : ∀ c, c = 100 ∨ c = 119 ∨ c = 115 → Canon (namedS c) := fun c h => by
    rcases h with rfl | rfl | rfl <;> simp [namedS, Canon, CanonF]
  rcases h with rfl | rfl | rfl | rfl | rfl | rfl
  · have : t = namedS 100 := canon_one hc (C 100 (by omega)) fun r => by
      rw [hm r, show (namedL 100 r).1 = digitL r from rfl, D r, ← hasL_inR]
    rw [this]; rfl
  · have : t = namedS 119 := canon_one hc (C 119 (by omega)) fun r => by
      rw [hm r, show (namedL 119 r).1 = wordL r from rfl, W r, ← hasL_inR]
    rw [this]; rfl
  · have : t = namedS 115 := canon_one hc (C 115 (by omega)) fun r => by
      rw [hm r, show (namedL 115 r).1 = spaceL r from rfl, S r, ← hasL_inR]
    rw [this]; rfl
  · have : t = setOf fun x => !hasL (namedS 100) x := setOf_of hc fun r => by
      rw [hm r, show (namedL 68 r).1 = !digitL r from rfl, D r]
    rw [this]; rfl
  · have : t = setOf fun x => !hasL (namedS 119) x := setOf_of hc fun r => by
      rw [hm r, show (namedL 87 r).1 = !wordL r from rfl]
      have := W r
      cases hi : inR r with
      | false => rfl
      | true => rw [hi, Bool.true_and, Bool.true_and] at this; rw [this]
    rw [this]; rfl
  · have : t = setOf fun x => !hasL (namedS 115) x := setOf_of hc fun r => by
      rw [hm r, show (namedL 83 r).1 = !spaceL r from rfl]
      have := S r
      cases hi : inR r with
      | false => rfl
      | true => rw [hi, Bool.true_and, Bool.true_and] at this; rw [this]
    rw [this]; rfl
theorem name_letter {c : Int} (h : letterB c = true) : (namedL c 0).2 = true := by
  unfold letterB at h
  rw [decide_eq_true_iff] at h
  rcases h with rfl | rfl | rfl | rfl | rfl | rfl <;> rfl
def plainB (l : List Int) : Bool := match l with
  | 92 :: e :: _ => !letterB e
  | _ => true
theorem named_head {x : Int} {l : List Int} (hx : x ≠ 92) {w : World} {g : Nat} (h : Rd w g (x :: l)) :
    Calls Tryz.prog 139 #[.pointer (some ⟨g, 0, none⟩)] w fun e w' => e = .returned (.tuple #[.slice none 0 0, .bool false]) ∧ w = w' := by
  have HP := Lib.hid (peek_any h)
  have hn : (x != 92) = true := by simpa using hx
  obtain ⟨A, n, c, h⟩ := h
  have c0 := h.c0
  clear h hx
  go_enter Tryz.func139, Tryz.ntmps139
  go_wp2_with (go_at_call 101; (with_reducible refine HP.out.mono ?_); rintro e w1 ⟨rfl, rfl⟩; rw [show (x :: l).headD (-1) = x from rfl])
  go_ret2
  exact ⟨rfl, rfl⟩
theorem named_nil {w : World} {g : Nat} (h : Rd w g []) :
    Calls Tryz.prog 139 #[.pointer (some ⟨g, 0, none⟩)] w fun e w' => e = .returned (.tuple #[.slice none 0 0, .bool false]) ∧ w = w' := by
  have HP := Lib.hid (peek_any h)
  obtain ⟨A, n, c, h⟩ := h
  have c0 := h.c0
  clear h
  go_enter Tryz.func139, Tryz.ntmps139
  go_wp2_with (go_at_call 101; (with_reducible refine HP.out.mono ?_); rintro e w1 ⟨rfl, rfl⟩; rw [show ([] : List Int).headD (-1) = -1 from rfl])
  go_ret2
  exact ⟨rfl, rfl⟩
theorem named_one {w : World} {g : Nat} (h : Rd w g [92]) :
    Calls Tryz.prog 139 #[.pointer (some ⟨g, 0, none⟩)] w fun e w' => e = .returned (.tuple #[.slice none 0 0, .bool false]) ∧ w = w' := by
  have HP := Lib.hid (peek_any h)
  obtain ⟨A, n, c, h⟩ := h
  have c0 := h.c0
  have hn : n = 1 := by simpa using h.row.1.symm
  subst hn
  clear h
  go_enter Tryz.func139, Tryz.ntmps139
  go_wp2_with (go_at_call 101; (with_reducible refine HP.out.mono ?_); rintro e w1 ⟨rfl, rfl⟩; rw [show ([92] : List Int).headD (-1) = 92 from rfl])
  go_ret2
  exact ⟨rfl, rfl⟩
theorem RdAt.two {w : World} {g n c : Nat} {A : Option Addr} {x y : Int} {l : List Int} (h : RdAt w g A n c (x :: y :: l)) : ∃ b o, A = some ⟨b, o, none⟩ ∧ 1 < n ∧ n = l.length + 2 ∧ w.cell? ⟨b, o + 1, none⟩ = some (.int .i64 y) ∧ 0 ≤ y ∧ y ≤ 1114111 := by
  have hl := h.row.1
  simp only [List.length_cons] at hl
  obtain ⟨b, o, hA, _, hc⟩ := h.row.2 (by omega)
  have := hc 1 (by omega)
  have hp := h.pts y (by simp)
  exact ⟨b, o, hA, by omega, by omega, by simpa using this, hp.1, hp.2⟩
set_option maxHeartbeats 1000000 in
theorem named_far {y : Int} {l : List Int} (hy : 256 ≤ y) {w : World} {g : Nat} (h : Rd w g (92 :: y :: l)) :
    Calls Tryz.prog 139 #[.pointer (some ⟨g, 0, none⟩)] w fun e w' => e = .returned (.tuple #[.slice none 0 0, .bool false]) ∧ w = w' := by
  have HP := Lib.hid (peek_any h)
  obtain ⟨A, n, c, h⟩ := h
  have c0 := h.c0
  obtain ⟨b, o, rfl, h1, hn, c1, hy0, hy1⟩ := h.two
  have n1 : ¬ (n : Int) < 2 := by omega
  have hw0 : IntKind.u8.wrap y = y % 256 := by rw [IntKind.wrap_u8]
  have hwr : IntKind.i64.wrap (y % 256) = y % 256 := by rw [IntKind.wrap_i64]; omega
  have hne : (y != y % 256) = true := by simp; omega
  clear h hn hy1
  go_enter Tryz.func139, Tryz.ntmps139
  go_wp2_with (go_at_call 101; (with_reducible refine HP.out.mono ?_); rintro e w1 ⟨rfl, rfl⟩; rw [show (92 :: y :: l).headD (-1) = 92 from rfl])
  go_ret2
  exact ⟨rfl, rfl⟩
set_option maxHeartbeats 1000000 in
theorem named_not (F : FacesS) {y : Int} {l : List Int} (hy : y < 256) (hl : letterB y = false) {w : World} {g : Nat} (h : Rd w g (92 :: y :: l)) :
    Calls Tryz.prog 139 #[.pointer (some ⟨g, 0, none⟩)] w fun e w' => e = .returned (.tuple #[.slice none 0 0, .bool false]) ∧ w = w' := by
  have HP := Lib.hid (peek_any h)
  obtain ⟨A, n, c, h⟩ := h
  have c0 := h.c0
  obtain ⟨b, o, rfl, h1, hn, c1, hy0, hy1⟩ := h.two
  have n1 : ¬ (n : Int) < 2 := by omega
  have hw0 : IntKind.u8.wrap y = y := by rw [IntKind.wrap_u8]; omega
  have hwr : IntKind.i64.wrap y = y := by rw [IntKind.wrap_i64]; omega
  have hne : (y != y) = false := by simp
  have HN := Lib.hid (F.noName y hy0 hy (by unfold letterB at hl; rw [decide_eq_false_iff_not] at hl; omega))
  clear h hn hy1 hl
  go_enter Tryz.func139, Tryz.ntmps139
  go_wp2_with (first
    | (go_at_call 101; (with_reducible refine HP.out.mono ?_); rintro e w1 ⟨rfl, rfl⟩; rw [show (92 :: y :: l).headD (-1) = 92 from rfl])
    | (go_at_call 154; (with_reducible refine (HN.out _).mono ?_); rintro e w1 ⟨rfl, rfl⟩))
  go_ret2
  exact ⟨rfl, rfl⟩
theorem named_no (F : FacesS) {l : List Int} (hp : plainB l = true) {w : World} {g : Nat} (h : Rd w g l) :
    Calls Tryz.prog 139 #[.pointer (some ⟨g, 0, none⟩)] w fun e w' => e = .returned (.tuple #[.slice none 0 0, .bool false]) ∧ w = w' := by
  rcases l with _ | ⟨x, l⟩
  · exact named_nil h
  by_cases hx : x = 92
  · subst hx
    rcases l with _ | ⟨y, l⟩
    · exact named_one h
    · by_cases hy : y < 256
      · exact named_not F hy (by simpa [plainB] using hp) h
      · exact named_far (by omega) h
  · exact named_head hx h
set_option maxHeartbeats 1000000 in
theorem named_yes (F : FacesS) {y : Int} {l : List Int} (hl : letterB y = true) {w : World} {g : Nat} (h : Rd w g (92 :: y :: l)) :
    Calls Tryz.prog 139 #[.pointer (some ⟨g, 0, none⟩)] w fun e w' => ∃ P q pc s, e = .returned (.tuple #[.slice P q pc, .bool true]) ∧ escL y = some (s, false) ∧ w'.ownsRow w.heap.size 74 2 (.slice P q pc) q (cellsG s) ∧ Rd w' g l ∧ Off g w w' := by
  have HP := Lib.hid (peek_any h)
  have hfew := h.few
  obtain ⟨A, n, c, h⟩ := h
  have hg := h.lt
  obtain ⟨b, o, rfl, h1, hn, c1, hy0, hy1⟩ := h.two
  have hy : y < 256 := by unfold letterB at hl; rw [decide_eq_true_iff] at hl; omega
  have n1 : ¬ (n : Int) < 2 := by omega
  have hw0 : IntKind.u8.wrap y = y := by rw [IntKind.wrap_u8]; omega
  have hwr : IntKind.i64.wrap y = y := by rw [IntKind.wrap_i64]; omega
  have hne : (y != y) = false := by simp
  have c0 := h.c0
  have HN := Lib.hid (F.named w y hy0 hy)
  have HL := Lib.hid hl
  have HH := Lib.hid h
  have hnm := name_letter hl
  rw [hnm] at HN
  have n2 : (2 : Int) ≤ (n : Int) := by omega
  obtain ⟨hc1, hc2⟩ := h.cap
  have n3 : (n : Int) ≤ (c : Int) := by omega
  clear h hy1 hl hc2
  rcases Nat.eq_or_lt_of_le (show 2 ≤ c by omega) with hc | hc
  · subst hc
    have hn2 : n = 2 := by omega
    subst hn2
    have hl0 : l = [] := List.eq_nil_of_length_eq_zero (by omega)
    subst hl0
    clear hn hc1 n2 n3 n1 h1
    go_enter Tryz.func139, Tryz.ntmps139
    go_wp2_with (first
      | (go_at_call 101; (with_reducible refine HP.out.mono ?_); rintro e w1 ⟨rfl, rfl⟩; rw [show (92 :: y :: ([] : List Int)).headD (-1) = 92 from rfl])
      | (go_at_call 154; (with_reducible refine HN.out.mono ?_); rintro e w1 ⟨V, t, rfl, ho, hcan, _, hm⟩; obtain ⟨P, pc, rfl, hrg, hpc⟩ := rowG_of_own ho.1 rfl; have c0' := (HH.out.below ho.2).c0; have f0' := (HH.out.below ho.2).fz; have HO := Lib.hid (And.intro ho (And.intro hcan hm)); clear ho hcan hm hrg hpc))
    go_ret2
    obtain ⟨ho, hcan, hm⟩ := HO.out
    have hr := (HH.out.below ho.2).cut (k := 2) (Nat.le_refl _) (.inr ⟨rfl, rfl⟩) rfl rfl
    exact ⟨_, _, _, t, rfl, letter_set HL.out hcan (hm trivial), row_keep ho.1 (fun k hk e => Below.heap_setCell _ _ _ _ (fun e' => by have := (row_lt ho.1 e).1; have e'' : k = g := e'; omega)), ⟨_, _, _, hr⟩, (Off.of_below ho.2 hg).setCell _ _⟩
  · have e1 : (n : Int) - 2 = (l.length : Int) := by omega
    clear h1
    subst hn
    go_enter Tryz.func139, Tryz.ntmps139
    go_wp2_with (first
      | (go_at_call 101; (with_reducible refine HP.out.mono ?_); rintro e w1 ⟨rfl, rfl⟩; rw [show (92 :: y :: l).headD (-1) = 92 from rfl])
      | (go_at_call 154; (with_reducible refine HN.out.mono ?_); rintro e w1 ⟨V, t, rfl, ho, hcan, _, hm⟩; obtain ⟨P, pc, rfl, hrg, hpc⟩ := rowG_of_own ho.1 rfl; have c0' := (HH.out.below ho.2).c0; have f0' := (HH.out.below ho.2).fz; have HO := Lib.hid (And.intro ho (And.intro hcan hm)); clear ho hcan hm hrg hpc))
    go_ret2
    obtain ⟨ho, hcan, hm⟩ := HO.out
    have hr := (HH.out.below ho.2).cut (k := 2) (A' := some ⟨b, o + 2, none⟩) (n' := l.length) (c' := c - 2) (by omega) (.inl ⟨hc, by simp [Addr.add]⟩) (by omega) rfl
    exact ⟨_, _, _, t, rfl, letter_set HL.out hcan (hm trivial), row_keep ho.1 (fun k hk e => Below.heap_setCell _ _ _ _ (fun e' => by have := (row_lt ho.1 e).1; have e'' : k = g := e'; omega)), ⟨_, _, _, hr⟩, (Off.of_below ho.2 hg).setCell _ _⟩
end Go.Proofs.YtaapbmdojkjphaaGreat
namespace Go.Proofs.YtaapbmdojkjphaaGreat
open Go Go.RowKit
set_option linter.unusedVariables false
set_option maxRecDepth 20000
def pointL : List Int → Int × Bool × List Int
  | [] => (0, false, [])
  | x :: l => if x = 91 ∨ x = 93 ∨ x = 94 ∨ x = 45 then (0, false, l) else if x = 92 then ((itselfL (l.headD (-1))).1, (itselfL (l.headD (-1))).2, l.tail) else (x, true, l)
theorem ptL_back0 : ptL [92] = none := rfl
theorem ptL_back (e : Int) (l : List Int) : ptL (92 :: e :: l) = (escL e).map fun p => (p.1, p.2, l) := rfl
theorem pointL_cons (x : Int) (l : List Int) : pointL (x :: l) = if x = 91 ∨ x = 93 ∨ x = 94 ∨ x = 45 then (0, false, l) else if x = 92 then ((itselfL (l.headD (-1))).1, (itselfL (l.headD (-1))).2, l.tail) else (x, true, l) := rfl
theorem pointL_yes {l r : List Int} {c : Int} (h : pointL l = (c, true, r)) : ptL l = some ([(c, c)], true, r) := by
  rcases l with _ | ⟨x, l⟩
  · cases h
  unfold pointL at h
  unfold ptL
  dsimp only at h ⊢
  split at h
  · cases h
  · rename_i h1
    rw [if_neg h1]
    split at h
    · rename_i h2
      rw [if_pos h2]
      rcases l with _ | ⟨e, l⟩
      · cases h
      · injection h with h3 h4
        injection h4 with h4 h5
        have : itselfL e = (c, true) := Prod.ext h3 h4
        dsimp only
        rw [escL_itself this]
        subst h5
        rfl
    · rename_i h2
      rw [if_neg h2]
      injection h with h3 h4
      injection h4 with h4 h5
      subst h3; subst h5
      rfl
theorem pointL_no {l r : List Int} {c : Int} (h : pointL l = (c, false, r)) : ptL l = none ∨ ∃ s r', ptL l = some (s, false, r') := by
  rcases l with _ | ⟨x, l⟩
  · exact .inl rfl
  unfold pointL at h
  unfold ptL
  dsimp only at h ⊢
  split at h
  · rename_i h1
    rw [if_pos h1]; exact .inl rfl
  · rename_i h1
    rw [if_neg h1]
    split at h
    · rename_i h2
      rw [if_pos h2]
      rcases l with _ | ⟨e, l⟩
      · exact .inl rfl
      · injection h with h3 h4
        injection h4 with h4 h5
        have hi : itselfL e = (c, false) := Prod.ext h3 h4
        dsimp only
        cases hl : letterB e with
        | true =>
          obtain ⟨s, hs⟩ := escL_letter hl
          rw [hs]; exact .inr ⟨s, l, rfl⟩
        | false => rw [escL_none hi hl]; exact .inl rfl
    · cases h
theorem pointL_plain {l r : List Int} {c : Int} (h : pointL l = (c, false, r)) (hp : plainB l = true) : ptL l = none := by
  rcases pointL_no h with h | ⟨s, r', h⟩
  · exact h
  · exfalso
    rcases l with _ | ⟨x, l⟩
    · cases h
    · by_cases h2 : x = 92
      · subst h2
        rcases l with _ | ⟨e, l⟩
        · rw [ptL_back0] at h; cases h
        · rw [ptL_back] at h
          obtain ⟨⟨s', b⟩, he, h⟩ := Option.map_eq_some_iff.1 h
          injection h with h3 h4
          injection h4 with h4 h5
          simp only at h3 h4
          subst h4
          have hl : letterB e = false := by simpa [plainB] using hp
          rcases hi : itselfL e with ⟨y, _ | _⟩
          · rw [escL_none hi hl] at he; cases he
          · rw [escL_itself hi] at he; injection he with he; injection he with _ he; cases he
      · unfold ptL at h
        dsimp only at h
        split at h
        · cases h
        · first | rw [if_neg h2] at h | skip
          injection h with h; injection h with _ h; injection h with h _; cases h
theorem point_nil {w : World} {g : Nat} (h : Rd w g []) :
    Calls Tryz.prog 166 #[.pointer (some ⟨g, 0, none⟩)] w fun e w' => e = .returned (.tuple #[.int .i64 0, .bool false]) ∧ w = w' := by
  have HN := Lib.hid (next_nil h)
  clear h
  go_enter Tryz.func166, Tryz.ntmps166
  go_wp2_with (go_at_call 103; (with_reducible refine HN.out.mono ?_); rintro e w1 ⟨rfl, rfl⟩)
  go_ret2
  exact ⟨rfl, rfl⟩
theorem point_sign {w : World} {g : Nat} {x : Int} {l : List Int} (hx : x = 91 ∨ x = 93 ∨ x = 94 ∨ x = 45) (h : Rd w g (x :: l)) :
    Calls Tryz.prog 166 #[.pointer (some ⟨g, 0, none⟩)] w fun e w' => e = .returned (.tuple #[.int .i64 0, .bool false]) ∧ Rd w' g l ∧ Off g w w' := by
  have HN := Lib.hid (next_cons h)
  clear h
  rcases hx with rfl | rfl | rfl | rfl
  all_goals
    go_enter Tryz.func166, Tryz.ntmps166
    go_wp2_with (go_at_call 103; (with_reducible refine HN.out.mono ?_); rintro e w1 ⟨rfl, hr, ho⟩; have HO := Lib.hid (And.intro hr ho); clear hr ho)
    go_ret2
    exact ⟨rfl, HO.out⟩
theorem point_back {w : World} {g : Nat} {l : List Int} (h : Rd w g (92 :: l)) :
    Calls Tryz.prog 166 #[.pointer (some ⟨g, 0, none⟩)] w fun e w' => e = .returned (.tuple #[.int .i64 (itselfL (l.headD (-1))).1, .bool (itselfL (l.headD (-1))).2]) ∧ Rd w' g l.tail ∧ Off g w w' := by
  have HN := Lib.hid (next_cons h)
  have HI := Lib.hid fun w => itself_any (l.headD (-1)) w
  have HT := Lib.hid fun w (h : Rd w g l) => next_any h
  clear h
  obtain ⟨y, hy⟩ : ∃ y, y = l.headD (-1) := ⟨_, rfl⟩
  rw [← hy] at HI HT ⊢
  clear hy
  go_enter Tryz.func166, Tryz.ntmps166
  go_wp2_with (first
    | (go_at_call 103; (with_reducible refine HN.out.mono ?_); rintro e w1 ⟨rfl, hr, ho⟩; have HO := Lib.hid (And.intro hr ho); clear hr ho)
    | (go_at_call 103; (with_reducible refine (HT.out _ HO.out.1).mono ?_); rintro e w2 ⟨rfl, hr, ho⟩; have HO2 := Lib.hid (And.intro hr ho); clear hr ho)
    | (go_at_call 145; (with_reducible refine (HI.out _).mono ?_); rintro e w3 ⟨rfl, rfl⟩))
  go_ret2
  exact ⟨rfl, HO2.out.1, HO.out.2.trans HO2.out.2⟩
theorem point_plain {w : World} {g : Nat} {x : Int} {l : List Int} (hx : ¬ (x = 91 ∨ x = 93 ∨ x = 94 ∨ x = 45)) (h2 : x ≠ 92) (h : Rd w g (x :: l)) :
    Calls Tryz.prog 166 #[.pointer (some ⟨g, 0, none⟩)] w fun e w' => e = .returned (.tuple #[.int .i64 x, .bool true]) ∧ Rd w' g l ∧ Off g w w' := by
  have HN := Lib.hid (next_cons h)
  have h0 : ¬ x = -1 := by have := h.pts x (by simp); omega
  have h3 : ¬ x = 91 := by omega
  have h4 : ¬ x = 93 := by omega
  have h5 : ¬ x = 94 := by omega
  have h6 : ¬ x = 45 := by omega
  clear h hx
  go_enter Tryz.func166, Tryz.ntmps166
  go_wp2_with (go_at_call 103; (with_reducible refine HN.out.mono ?_); rintro e w1 ⟨rfl, hr, ho⟩; have HO := Lib.hid (And.intro hr ho); clear hr ho)
  go_ret2
  exact ⟨rfl, HO.out⟩
theorem point_any {w : World} {g : Nat} {l : List Int} (h : Rd w g l) :
    Calls Tryz.prog 166 #[.pointer (some ⟨g, 0, none⟩)] w fun e w' => e = .returned (.tuple #[.int .i64 (pointL l).1, .bool (pointL l).2.1]) ∧ Rd w' g (pointL l).2.2 ∧ Off g w w' := by
  rcases l with _ | ⟨x, l⟩
  · exact (point_nil h).mono fun e w' ⟨he, hw⟩ => ⟨he, hw ▸ h, hw ▸ Off.refl _ _⟩
  rw [pointL_cons]
  by_cases h1 : x = 91 ∨ x = 93 ∨ x = 94 ∨ x = 45
  · rw [if_pos h1]; exact point_sign h1 h
  rw [if_neg h1]
  by_cases h2 : x = 92
  · subst h2; rw [if_pos rfl]; exact point_back h
  · rw [if_neg h2]; exact point_plain h1 h2 h
def PartV (g : Nat) (l : List Int) (w : World) (e : Ending) (w' : World) : Prop :=
  (∃ V, e = .returned (.tuple #[V, .bool false]) ∧ partL l = none ∧ Off g w w') ∨
  (∃ P q pc s l', e = .returned (.tuple #[.slice P q pc, .bool true]) ∧ partL l = some (s, l') ∧ w'.ownsRow w.heap.size 74 2 (.slice P q pc) q (cellsG s) ∧ Rd w' g l' ∧ Off g w w')
theorem part_letter (F : FacesS) {y : Int} {l : List Int} (hl : letterB y = true) {w : World} {g : Nat} (h : Rd w g (92 :: y :: l)) :
    Calls Tryz.prog 155 #[.pointer (some ⟨g, 0, none⟩)] w (PartV g (92 :: y :: l) w) := by
  have HN := Lib.hid (named_yes F hl h)
  clear h
  go_enter Tryz.func155, Tryz.ntmps155
  go_wp2_with (go_at_call 139; (with_reducible refine HN.out.mono ?_); rintro e w1 ⟨P, q, pc, s, rfl, he, ho, hr, hf⟩; have HO := Lib.hid (And.intro he (And.intro ho (And.intro hr hf))); clear he ho hr hf)
  go_ret2
  obtain ⟨he, ho, hr, hf⟩ := HO.out
  refine .inr ⟨P, q, pc, s, l, rfl, partL_plain (is := false) ?_ (.inl rfl), ho, hr, hf⟩
  show (escL y).map (fun p => (p.1, p.2, l)) = _
  rw [he]; rfl
theorem part_bad (F : FacesS) {l r : List Int} {c : Int} (hp : plainB l = true) (hc : pointL l = (c, false, r)) {w : World} {g : Nat} (h : Rd w g l) :
    Calls Tryz.prog 155 #[.pointer (some ⟨g, 0, none⟩)] w (PartV g l w) := by
  have HN := Lib.hid (named_no F hp h)
  have HP := Lib.hid (point_any h)
  rw [hc] at HP
  have HC := Lib.hid (partL_none (pointL_plain hc hp))
  clear h hc hp
  go_enter Tryz.func155, Tryz.ntmps155
  go_wp2_with (first
    | (go_at_call 139; (with_reducible refine HN.out.mono ?_); rintro e w1 ⟨rfl, rfl⟩)
    | (go_at_call 166; (with_reducible refine HP.out.mono ?_); rintro e w1 ⟨rfl, hr, ho⟩; have HO := Lib.hid ho; clear hr ho))
  go_ret2
  exact .inl ⟨_, rfl, HC.out, HO.out⟩
set_option maxHeartbeats 1000000 in
theorem part_one (F : FacesS) {l r : List Int} {c : Int} (hp : plainB l = true) (hc : pointL l = (c, true, r)) (hr : r.headD (-1) ≠ 45) {w : World} {g : Nat} (h : Rd w g l) :
    Calls Tryz.prog 155 #[.pointer (some ⟨g, 0, none⟩)] w (PartV g l w) := by
  have HN := Lib.hid (named_no F hp h)
  have HP := Lib.hid (point_any h)
  rw [hc] at HP
  have hg := h.lt
  have HT := Lib.hid fun w (h : Rd w g r) => take_no h hr
  have HC := Lib.hid (partL_plain (pointL_yes hc) (.inr (fun e => hr (by rcases r with _ | ⟨x, r⟩ <;> simp_all))))
  have hle : decide (c ≤ c) = true := by simp
  clear h hc hp hr
  go_enter Tryz.func155, Tryz.ntmps155
  go_wp2_with (first
    | (go_at_call 139; (with_reducible refine HN.out.mono ?_); rintro e w1 ⟨rfl, rfl⟩)
    | (go_at_call 166; (with_reducible refine HP.out.mono ?_); rintro e w1 ⟨rfl, hr, ho⟩; have HO := Lib.hid (And.intro hr ho); clear hr ho)
    | (go_at_call 61; (with_reducible refine (HT.out _ HO.out.1).mono ?_); rintro e w2 ⟨rfl, rfl⟩))
  go_ret2
  refine .inr ⟨_, 1, 1, [(c, c)], r, rfl, HC.out, ?_, HO.out.1.below ((Below.refl _ _).alloc (Nat.le_refl _) _), HO.out.2.alloc hg _⟩
  exact row_base (ownG_made w1 [(c, c)] (by simp)) (fun k e => Nat.le_trans HO.out.2.1.size (row_lt (ownG_made w1 [(c, c)] (by simp)) e).1)
set_option maxHeartbeats 1000000 in
theorem part_two (F : FacesS) {l r : List Int} {c : Int} (hp : plainB l = true) (hc : pointL l = (c, true, 45 :: r)) {w : World} {g : Nat} (h : Rd w g l) :
    Calls Tryz.prog 155 #[.pointer (some ⟨g, 0, none⟩)] w (PartV g l w) := by
  have HN := Lib.hid (named_no F hp h)
  have HP := Lib.hid (point_any h)
  rw [hc] at HP
  have hg := h.lt
  have HT := Lib.hid fun w (h : Rd w g (45 :: r)) => take_yes h
  have HC := Lib.hid (partL_dash (pointL_yes hc))
  rcases hd : pointL r with ⟨d, ok, r2⟩
  have HP2 := Lib.hid fun w (h : Rd w g r) => point_any h
  rw [hd] at HP2
  clear h hc hp
  cases ok with
  | false =>
    have HB := Lib.hid (show partL l = none by
      rw [HC.out]
      rcases pointL_no hd with h | ⟨s, r', h⟩ <;> rw [h])
    clear hd
    go_enter Tryz.func155, Tryz.ntmps155
    go_wp2_with (first
      | (go_at_call 139; (with_reducible refine HN.out.mono ?_); rintro e w1 ⟨rfl, rfl⟩)
      | (go_at_call 166; (with_reducible refine HP.out.mono ?_); rintro e w1 ⟨rfl, hr, ho⟩; have HO := Lib.hid (And.intro hr ho); clear hr ho)
      | (go_at_call 61; (with_reducible refine (HT.out _ HO.out.1).mono ?_); rintro e w2 ⟨rfl, hr, ho⟩; have HO2 := Lib.hid (And.intro hr ho); clear hr ho)
      | (go_at_call 166; (with_reducible refine (HP2.out _ HO2.out.1).mono ?_); rintro e w3 ⟨rfl, hr, ho⟩; have HO3 := Lib.hid (And.intro hr ho); clear hr ho))
    go_ret2
    exact .inl ⟨_, rfl, HB.out, (HO.out.2.trans (HO2.out.2.trans HO3.out.2)).alloc hg _⟩
  | true =>
    have hpt := pointL_yes hd
    clear hd
    by_cases hlt : d < c
    · have HB := Lib.hid (show partL l = none by
        rw [HC.out, hpt]
        exact if_pos hlt)
      have hle : decide (c ≤ d) = false := by simp; omega
      clear hpt hlt
      go_enter Tryz.func155, Tryz.ntmps155
      go_wp2_with (first
        | (go_at_call 139; (with_reducible refine HN.out.mono ?_); rintro e w1 ⟨rfl, rfl⟩)
        | (go_at_call 166; (with_reducible refine HP.out.mono ?_); rintro e w1 ⟨rfl, hr, ho⟩; have HO := Lib.hid (And.intro hr ho); clear hr ho)
        | (go_at_call 61; (with_reducible refine (HT.out _ HO.out.1).mono ?_); rintro e w2 ⟨rfl, hr, ho⟩; have HO2 := Lib.hid (And.intro hr ho); clear hr ho)
        | (go_at_call 166; (with_reducible refine (HP2.out _ HO2.out.1).mono ?_); rintro e w3 ⟨rfl, hr, ho⟩; have HO3 := Lib.hid (And.intro hr ho); clear hr ho))
      go_ret2
      exact .inl ⟨_, rfl, HB.out, (HO.out.2.trans (HO2.out.2.trans HO3.out.2)).alloc hg _⟩
    · have HB := Lib.hid (show partL l = some ([(c, d)], r2) by
        rw [HC.out, hpt]
        exact if_neg hlt)
      have hle : decide (c ≤ d) = true := by simp; omega
      clear hpt hlt
      go_enter Tryz.func155, Tryz.ntmps155
      go_wp2_with (first
        | (go_at_call 139; (with_reducible refine HN.out.mono ?_); rintro e w1 ⟨rfl, rfl⟩)
        | (go_at_call 166; (with_reducible refine HP.out.mono ?_); rintro e w1 ⟨rfl, hr, ho⟩; have HO := Lib.hid (And.intro hr ho); clear hr ho)
        | (go_at_call 61; (with_reducible refine (HT.out _ HO.out.1).mono ?_); rintro e w2 ⟨rfl, hr, ho⟩; have HO2 := Lib.hid (And.intro hr ho); clear hr ho)
        | (go_at_call 166; (with_reducible refine (HP2.out _ HO2.out.1).mono ?_); rintro e w3 ⟨rfl, hr, ho⟩; have HO3 := Lib.hid (And.intro hr ho); clear hr ho))
      go_ret2
      have hf := HO.out.2.trans (HO2.out.2.trans HO3.out.2)
      refine .inr ⟨_, 1, 1, [(c, d)], r2, rfl, HB.out, ?_, HO3.out.1.below ((Below.refl _ _).alloc (Nat.le_refl _) _), hf.alloc hg _⟩
      exact row_base (ownG_made w3 [(c, d)] (by simp)) (fun k e => Nat.le_trans hf.1.size (row_lt (ownG_made w3 [(c, d)] (by simp)) e).1)
theorem part_any (F : FacesS) {l : List Int} {w : World} {g : Nat} (h : Rd w g l) :
    Calls Tryz.prog 155 #[.pointer (some ⟨g, 0, none⟩)] w (PartV g l w) := by
  cases hp : plainB l with
  | false =>
    unfold plainB at hp
    split at hp
    · rename_i y r
      exact part_letter F (by simpa using hp) h
    · cases hp
  | true =>
    rcases hc : pointL l with ⟨c, _ | _, r⟩
    · exact part_bad F hp hc h
    · by_cases hr : r.headD (-1) = 45
      · rcases r with _ | ⟨x, r⟩
        · cases hr
        · rw [List.headD_cons] at hr
          subst hr
          exact part_two F hp hc h
      · exact part_one F hp hc hr h
end Go.Proofs.YtaapbmdojkjphaaGreat
namespace Go.Proofs.YtaapbmdojkjphaaGreat
open Go Go.RowKit
set_option linter.unusedVariables false
set_option maxRecDepth 20000
theorem app_G {w : World} {B : Nat} {P : Option Addr} {q pc : Nat} {xs : List (Int × Int)} (h : w.ownsRow B 74 2 (.slice P q pc) q (cellsG xs)) {A : Option Addr} {n c : Nat} {s : List (Int × Int)} (hr : RowG w A n s) (hA : A = none → n = 0 ∧ c = 0) (hq : q ≤ 3000000) (hn : n ≤ 3000000) (hb : B ≤ w.heap.size) :
    ∃ P' pc' w', (Builtin.append_ #[24, 24] 24 #[.slice P q pc, .slice A n c]).run Tryz.prog w = .ok (.slice P' (q + n) pc') w' ∧ w'.ownsRow B 74 2 (.slice P' (q + n) pc') (q + n) (cellsG (xs ++ s)) ∧ Below B w w' := by
  obtain ⟨i0, hi, hz0, hz1, hz2⟩ := info_parts info_rng
  have hl := hr.1
  rw [cellsG_append]
  rcases A with _ | ad
  · obtain ⟨rfl, rfl⟩ := hA rfl
    have hs : s = [] := List.eq_nil_of_length_eq_zero hl
    subst hs
    rw [show cellsG [] = [] from rfl, List.append_nil]
    exact ⟨P, pc, w, run_append_owned_none (P := Tryz.prog) w B 24 24 74 i0 2 Tryz.underlying24 hi _ q _ h, h, Below.refl _ _⟩
  · have hcells : ∀ j u, (cellsG s)[j]? = some u → w.cell? (ad.add j) = some u := by
      intro j u hu
      have hj : j < n * 2 := by
        have := cellsG_length s
        rcases Nat.lt_or_ge j (cellsG s).length with h1 | h1
        · omega
        · rw [List.getElem?_eq_none h1] at hu; cases hu
      obtain ⟨b, o, hA, _, hc⟩ := hr.2 (by omega)
      injection hA with hA
      subst hA
      have hadd : (⟨b, o, none⟩ : Addr).add j = ⟨b, o + j, none⟩ := by unfold Addr.add; split <;> simp_all
      obtain ⟨e0, e1⟩ := cellsG_at s (j / 2) (by omega)
      obtain ⟨c0, c1⟩ := hc (j / 2) (by omega)
      rw [hadd]
      rcases Nat.mod_two_eq_zero_or_one j with hm | hm
      · have e : j = j / 2 * 2 := by omega
        rw [e] at hu ⊢
        rw [e0] at hu
        rw [c0, hu]
      · have e : j = j / 2 * 2 + 1 := by omega
        rw [e] at hu ⊢
        rw [e1] at hu
        rw [← Nat.add_assoc, c1, hu]
    obtain ⟨V', w', h1, h2, h3, _⟩ := run_append_own (P := Tryz.prog) w B 24 24 74 i0 _ 2 16 Tryz.underlying24 hi hz0 hz1 hz2 rfl (by decide) _ q _ h ad n c (cellsG s) (by rw [cellsG_length, hl]) hcells
      (by intro u hu; obtain ⟨p, _, hp⟩ := List.mem_flatMap.1 hu; simp at hp; rcases hp with rfl | rfl <;> rfl) (by unfold maxLen; omega) (by omega) hb
    have hb' : Below B w w' := (Below.refl _ _).grown h3 hb (by intro k hk; exact (row_lt h hk).1)
    rcases h2.2 with ⟨rfl, h0⟩ | ⟨b, cap, cu, rfl, _⟩
    · rw [h0] at h2 ⊢
      exact ⟨none, 0, w', h1, h2, hb'⟩
    · exact ⟨_, _, w', h1, h2, hb'⟩
theorem Off.grown {g : Nat} {a b c : World} (h : Off g a b) (hg : g < a.heap.size) (hb : Below a.heap.size b c) : Off g a c :=
  ⟨h.1.trans (hb.mono (Nat.le_of_lt hg)), fun k hk hne => (hb.block k hk).trans (h.2 k hk hne)⟩
theorem own_off {g B : Nat} {w w' : World} {e : TypeId} {sz n : Nat} {v : Value} {xs : List Value} (h : w.ownsRow B e sz v n xs) (hg : g < B) (ho : Off g w w') : w'.ownsRow B e sz v n xs :=
  row_keep h fun k hk hv => ho.2 k hk (by have := (row_lt h hv).1; omega)
def leftR (w : World) (g : Nat) : Nat := match w.cell? ⟨g, 0, none⟩ with
  | some (.slice _ n _) => n
  | _ => 0
theorem Rd.left {w : World} {g : Nat} {l : List Int} (h : Rd w g l) : leftR w g = l.length := by
  obtain ⟨A, n, c, h⟩ := h
  unfold leftR
  rw [h.c0, h.row.1]
theorem take_any {w : World} {g : Nat} {l : List Int} {x : Int} (hx : 0 ≤ x) (h : Rd w g l) :
    Calls Tryz.prog 61 #[.pointer (some ⟨g, 0, none⟩), .int .i64 x] w fun e w' => e = .returned (.bool (decide (l.headD (-1) = x))) ∧ Rd w' g (if l.headD (-1) = x then l.tail else l) ∧ Off g w w' := by
  by_cases hh : l.headD (-1) = x
  · rcases l with _ | ⟨y, l⟩
    · rw [List.headD_nil] at hh; omega
    · rw [List.headD_cons] at hh
      subst hh
      rw [if_pos (by rfl), decide_eq_true (by rfl)]
      exact take_yes h
  · rw [if_neg hh, decide_eq_false hh]
    exact (take_no h hh).mono fun e w' ⟨he, hw⟩ => ⟨he, hw ▸ h, hw ▸ Off.refl _ _⟩
end Go.Proofs.YtaapbmdojkjphaaGreat
