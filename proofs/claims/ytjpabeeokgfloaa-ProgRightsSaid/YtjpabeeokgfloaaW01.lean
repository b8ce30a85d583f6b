/- The document's example. -/
import Derived.Test.YtjpabeeokgfloaaQ01
import Derived.Test.YtjpabeeokgfloaaU01
import Derived.Deep.Slices
import Derived.Deep.Fields
import Derived.ChangeSame
import Derived.OpenShut
import Derived.ProofKit
namespace Go.Proofs.Ytjpabeeokgfloaa
open Go Go.RowKit
set_option linter.unusedVariables false
set_option maxRecDepth 20000

theorem ex_parse : parseT ⟨#[97, 123, 51, 125, 98, 42]⟩ = some exT := by kernel_rfl
theorem rparse_ex (w : World) : Calls Try.prog 7 #[.string ⟨#[97, 123, 51, 125, 98, 42]⟩] w fun e w' => ∃ x : NV, e = .returned (.tuple #[x.val, .int .i64 0]) ∧ NodesIn (fun _ => True) w' [x] exT ∧ Below w.heap.size w w' := by
  refine (rparse_any ⟨#[97, 123, 51, 125, 98, 42]⟩ w).mono fun e w' hv => ?_
  obtain ⟨hb, ⟨h1, _⟩ | ⟨_, h2, _⟩ | ⟨x, n, h1, h2, he, hN⟩⟩ := hv
  · exact absurd h1 (by decide)
  · rw [ex_parse] at h2; cases h2
  · rw [ex_parse] at h2
    injection h2 with h2
    subst h2
    exact ⟨x, he, hN, hb⟩
/-- The example's tree where it lies boxed: its program, its length. -/
theorem ex_at {F : Nat → Prop} {w1 : World} {x : NV} (h : NodesIn F w1 [x] exT) :
    (Calls Try.prog 8 #[.agg #[.int .i64 x.op, .slice x.A x.ns x.cs, .int .i64 x.mn, .int .i64 x.mx, .slice x.D x.nk x.ck]] (w1.alloc (.cells #[.int .i64 x.op, .slice x.A x.ns x.cs, .int .i64 x.mn, .int .i64 x.mx, .slice x.D x.nk x.ck] 28)) fun e w' => ∃ P pc, e = .returned (.tuple #[.slice P 7 pc, .int .i64 0]) ∧ Below (w1.alloc (.cells #[.int .i64 x.op, .slice x.A x.ns x.cs, .int .i64 x.mn, .int .i64 x.mx, .slice x.D x.nk x.ck] 28)).heap.size (w1.alloc (.cells #[.int .i64 x.op, .slice x.A x.ns x.cs, .int .i64 x.mn, .int .i64 x.mx, .slice x.D x.nk x.ck] 28)) w') ∧
    ∀ w2, Below (w1.alloc (.cells #[.int .i64 x.op, .slice x.A x.ns x.cs, .int .i64 x.mn, .int .i64 x.mx, .slice x.D x.nk x.ck] 28)).heap.size (w1.alloc (.cells #[.int .i64 x.op, .slice x.A x.ns x.cs, .int .i64 x.mn, .int .i64 x.mx, .slice x.D x.nk x.ck] 28)) w2 → Calls Try.prog 9 #[.agg #[.int .i64 x.op, .slice x.A x.ns x.cs, .int .i64 x.mn, .int .i64 x.mx, .slice x.D x.nk x.ck]] w2 fun e w' => e = .returned (.int .i64 6) ∧ Below w2.heap.size w2 w' := by
  have hb : Below w1.heap.size w1 (w1.alloc (.cells #[.int .i64 x.op, .slice x.A x.ns x.cs, .int .i64 x.mn, .int .i64 x.mx, .slice x.D x.nk x.ck] 28)) := (Below.refl _ _).alloc (Nat.le_refl _) _
  have h1 : NodesIn (fun b => b < (w1.alloc (.cells #[.int .i64 x.op, .slice x.A x.ns x.cs, .int .i64 x.mn, .int .i64 x.mx, .slice x.D x.nk x.ck] 28)).heap.size) (w1.alloc (.cells #[.int .i64 x.op, .slice x.A x.ns x.cs, .int .i64 x.mn, .int .i64 x.mx, .slice x.D x.nk x.ck] 28)) [x] exT := h.move hb.size fun b _ hlt => ⟨Nat.lt_of_lt_of_le hlt hb.size, hb.block b hlt⟩
  exact ⟨ex_compile h1, fun w2 hw => (ex_tree (g := 0) (Nat.le_refl _) h1).2 w2 hw hw.size⟩
set_option maxHeartbeats 4000000 in
theorem awakeP_any (w : World) : Calls Try.prog 4 #[] w fun e w' => e = .returned (.bool true) ∧ Below w.heap.size w w' := by
  have HP := Lib.hid (rparse_ex w)
  go_enter Try.func4, Try.ntmps4
  go_wp2_with (first
    | (go_at_call 7; (with_reducible refine HP.out.mono ?_); rintro e w1 ⟨x, rfl, hN, hb⟩; have H1 := Lib.hid (And.intro hN hb); have HC := Lib.hid (ex_at hN); clear hN hb; simp only [NV.val])
    | (go_at_call 8; (with_reducible refine HC.out.1.mono ?_); rintro e w2 ⟨P, pc, rfl, hb⟩; have H2 := Lib.hid hb; have HL := Lib.hid (HC.out.2 w2 hb); have hbx := Lib.hid (show w2.heap[w1.heap.size]? = some (.cells #[.int .i64 x.op, .slice x.A x.ns x.cs, .int .i64 x.mn, .int .i64 x.mx, .slice x.D x.nk x.ck] 28 (0, 0)) from (hb.block _ (by simp)).trans (heap_alloc_new w1 _)); obtain ⟨y0, y1, y2, y3, y4, yf⟩ := box_facts hbx.out; clear hb)
    | (go_at_call 9; (with_reducible refine HL.out.mono ?_); rintro e w3 ⟨rfl, hb⟩; have H3 := Lib.hid hb; clear hb))
  go_ret
  exact ⟨rfl, ((H1.out.2.alloc H1.out.2.size _).trans (H2.out.mono (Nat.le_trans H1.out.2.size (by simp)))).trans (H3.out.mono (Nat.le_trans H1.out.2.size (Nat.le_trans (by simp) H2.out.size)))⟩
end Go.Proofs.Ytjpabeeokgfloaa
/- Which programs are right: the program's Right and the document's. -/
namespace Go.Proofs.Ytjpabeeokgfloaa
open Go Go.RowKit
set_option linter.unusedVariables false
set_option maxRecDepth 20000

/-- A program that came in. -/
def InsAt (w : World) (A : Option Addr) (n : Nat) (l : List IV) : Prop :=
  l.length = n ∧ (0 < n → ∃ b o, A = some ⟨b, o, none⟩ ∧ b < w.heap.size ∧ ∀ j v, l[j]? = some v → ∀ k u, v.cells[k]? = some u → w.cell? ⟨b, o + j * 4 + k, none⟩ = some u)
theorem InsAt.below {w w' : World} {A : Option Addr} {n : Nat} {l : List IV} (h : InsAt w A n l) (hb : Below w.heap.size w w') : InsAt w' A n l := by
  refine ⟨h.1, fun hn => ?_⟩
  obtain ⟨b, o, hA, hlt, hc⟩ := h.2 hn
  exact ⟨b, o, hA, Nat.lt_of_lt_of_le hlt hb.size, fun j v hv k u hu => (hb.cell (p := ⟨b, o + j * 4 + k, none⟩) hlt).trans (hc j v hv k u hu)⟩
def inB (n : Nat) (x : Int) : Bool := decide (0 ≤ x) && decide (x < (n : Int))
def okB (n : Nat) (v : InstL) : Bool := if v.op = 0 then true else if v.op = 2 then inB n v.y && inB n v.x else if v.op = 1 ∨ v.op = 3 ∨ v.op = 4 then inB n v.x else false
def rightB (n : Nat) (l : List IV) : Bool := l.all (fun v => okB n v.i) && decide (0 < n)
theorem right_bad {n j : Nat} {l : List IV} {v : IV} (h : l[j]? = some v) (hb : okB n v.i = false) : rightB n l = false := by
  unfold rightB
  rw [Bool.and_eq_false_iff]
  left
  rw [List.all_eq_false]
  exact ⟨v, List.mem_of_getElem? h, by rw [hb]; decide⟩
theorem right_all {n : Nat} {l : List IV} (hl : l.length = n) (h : ∀ (j : Nat) (v : IV), l[j]? = some v → okB n v.i = true) : rightB n l = decide (0 < n) := by
  unfold rightB
  rw [show l.all (fun v => okB n v.i) = true from List.all_eq_true.2 fun v hv => by
    obtain ⟨j, hj⟩ := List.getElem?_of_mem hv
    exact h j v hj, Bool.true_and]
set_option maxHeartbeats 2000000 in
theorem has_any (bx n c : Nat) (A : Option Addr) (x : Int) (w : World) (h : w.cell? ⟨bx, 0, none⟩ = some (.slice A n c)) :
    Calls Try.prog 10 #[.int .i64 x, .pointer (some ⟨bx, 0, none⟩)] w fun e w' => e = .returned (.bool (inB n x)) ∧ w = w' := by
  by_cases h1 : 0 ≤ x
  · have hd : inB n x = decide (x < (n : Int)) := by unfold inB; rw [decide_eq_true h1, Bool.true_and]
    rw [hd]
    have g0 : decide (x ≥ 0) = true := decide_eq_true h1
    go_enter Try.func10, Try.ntmps10
    go_wp2
    go_ret
    exact ⟨rfl, rfl⟩
  · have hd : inB n x = false := by unfold inB; rw [decide_eq_false h1, Bool.false_and]
    rw [hd]
    go_enter Try.func10, Try.ntmps10
    go_wp2
    go_ret
    exact ⟨rfl, rfl⟩
set_option maxHeartbeats 8000000 in
theorem right_any (A : Option Addr) (n c : Nat) (l : List IV) (w : World) (h : InsAt w A n l) (hn : n ≤ 1000000) :
    Calls Try.prog 5 #[.slice A n c] w fun e w' => e = .returned (.bool (rightB n l)) ∧ Below w.heap.size w w' := by
  have HI := Lib.hid h
  obtain ⟨R, hR⟩ : ∃ R, R = rightB n l := ⟨_, rfl⟩
  rw [← hR]
  have HR := Lib.hid hR
  clear h hR
  go_enter Try.func5, Try.ntmps5
  go_wp2_with fail
  go_loopw [9] (fun vi wr => ∃ j : Nat, vi = .int .i64 (j : Int) ∧ j ≤ n ∧ Hid ((∀ i v, i < j → l[i]? = some v → okB n v.i = true) ∧ Below w.heap.size w wr ∧ wr.cell? ⟨w.heap.size, 0, none⟩ = some (.slice A n c) ∧ w.heap.size < wr.heap.size)) (fun vi _ => n - (match vi with | .int _ j => j.toNat | _ => 0))
  case atStart => exact ⟨0, rfl, Nat.zero_le _, Lib.hid ⟨fun i v hi => absurd hi (by omega), (Below.refl _ _).alloc (Nat.le_refl _) _, cell_of_row _ w.heap.size 0 _ _ (0, 0) (heap_alloc_new w _), by simp⟩⟩
  case round =>
    obtain ⟨j, rfl, hj, H⟩ := hrel
    by_cases hlt : j < n
    · obtain ⟨v, hv⟩ : ∃ v, l[j]? = some v := ⟨_, List.getElem?_eq_getElem (by rw [HI.out.1]; exact hlt)⟩
      obtain ⟨b, o, rfl, hbl, hc⟩ := (HI.out.below H.out.2.1).2 (by omega)
      have c0 := hc j v hv 0 _ rfl
      have c1 := hc j v hv 1 _ rfl
      have c2 := hc j v hv 2 _ rfl
      have c3 := hc j v hv 3 _ rfl
      rw [Nat.add_zero] at c0
      have HV := Lib.hid hv
      have HH := Lib.hid fun (x : Int) (o' : Obj) => has_any w.heap.size n c (some ⟨b, o, none⟩) x (wr.alloc o') (((Below.refl wr.heap.size wr).alloc (Nat.le_refl _) o').cell (p := ⟨w.heap.size, 0, none⟩) H.out.2.2.2 |>.trans H.out.2.2.1)
      have next : okB n v.i = true → ∀ w2, Below wr.heap.size wr w2 → Hid ((∀ i v, i < j + 1 → l[i]? = some v → okB n v.i = true) ∧ Below w.heap.size w w2 ∧ w2.cell? ⟨w.heap.size, 0, none⟩ = some (.slice (some ⟨b, o, none⟩) n c) ∧ w.heap.size < w2.heap.size) := fun hok w2 hb2 => Lib.hid ⟨fun i v' hi hv' => by
        rcases Nat.lt_or_ge i j with h1 | h1
        · exact H.out.1 i v' h1 hv'
        · obtain rfl : i = j := by omega
          rw [HV.out] at hv'
          injection hv' with hv'
          rw [← hv']; exact hok, H.out.2.1.trans (hb2.mono H.out.2.1.size), (hb2.cell (p := ⟨w.heap.size, 0, none⟩) H.out.2.2.2).trans H.out.2.2.1, Nat.lt_of_lt_of_le H.out.2.2.2 hb2.size⟩
      have HNx := Lib.hid next
      have bad : okB n v.i = false → R = false := fun h => HR.out.trans (right_bad HV.out h)
      have HBad := Lib.hid bad
      clear hc hv next bad hbl
      by_cases h0 : v.i.op = 0
      · rw [h0] at c0
        go_wp2
        exact ⟨⟨j + 1, rfl, hlt, HNx.out (by unfold okB; rw [if_pos h0]) _ ((Below.refl _ _).alloc (Nat.le_refl _) _)⟩, by show n - ((j : Int) + 1).toNat < n - (j : Int).toNat; omega⟩
      by_cases h2 : v.i.op = 2
      · have hok : okB n v.i = (inB n v.i.y && inB n v.i.x) := by unfold okB; rw [if_neg h0, if_pos h2]
        rw [h2] at c0
        rcases hy : inB n v.i.y with _ | _
        · have HB := HBad.out (by rw [hok, hy]; rfl)
          have HY := Lib.hid hy
          clear hy hok h0 h2
          go_wp2_with (go_at_call 10; (with_reducible refine (HH.out _ _).mono ?_); rintro e w2 ⟨rfl, rfl⟩; rw [HY.out])
          go_ret
          rw [HB]
          exact ⟨rfl, H.out.2.1.alloc H.out.2.1.size _⟩
        · rcases hx : inB n v.i.x with _ | _
          · have HB := HBad.out (by rw [hok, hy, hx]; rfl)
            have HY := Lib.hid hy
            have HX := Lib.hid hx
            clear hy hx hok h0 h2
            go_wp2_with (go_at_call 10; (with_reducible refine (HH.out _ _).mono ?_); rintro e w2 ⟨rfl, rfl⟩; first | rw [HY.out] | rw [HX.out])
            go_ret
            rw [HB]
            exact ⟨rfl, H.out.2.1.alloc H.out.2.1.size _⟩
          · have HOK := Lib.hid (show okB n v.i = true by rw [hok, hy, hx]; rfl)
            have HY := Lib.hid hy
            have HX := Lib.hid hx
            clear hy hx hok h0 h2
            go_wp2_with (go_at_call 10; (with_reducible refine (HH.out _ _).mono ?_); rintro e w2 ⟨rfl, rfl⟩; first | rw [HY.out] | rw [HX.out])
            exact ⟨⟨j + 1, rfl, hlt, HNx.out (by exact HOK.out) _ ((Below.refl _ _).alloc (Nat.le_refl _) _)⟩, by show n - ((j : Int) + 1).toNat < n - (j : Int).toNat; omega⟩
      by_cases h3 : v.i.op = 1 ∨ v.i.op = 3 ∨ v.i.op = 4
      · clear h0 h2
        rcases h3 with h0 | h0 | h0
        · rcases hx : inB n v.i.x with _ | _
          · have HX := Lib.hid hx
            have HB := HBad.out (by unfold okB; rw [h0, if_neg (by decide), if_neg (by decide), if_pos (by decide), hx])
            rw [h0] at c0
            clear hx
            go_wp2_with (go_at_call 10; (with_reducible refine (HH.out _ _).mono ?_); rintro e w2 ⟨rfl, rfl⟩; rw [HX.out])
            go_ret
            rw [HB]
            exact ⟨rfl, H.out.2.1.alloc H.out.2.1.size _⟩
          · have HX := Lib.hid hx
            have HOK := Lib.hid (show okB n v.i = true by unfold okB; rw [h0, if_neg (by decide), if_neg (by decide), if_pos (by decide), hx])
            rw [h0] at c0
            clear hx
            go_wp2_with (go_at_call 10; (with_reducible refine (HH.out _ _).mono ?_); rintro e w2 ⟨rfl, rfl⟩; rw [HX.out])
            exact ⟨⟨j + 1, rfl, hlt, HNx.out (by exact HOK.out) _ ((Below.refl _ _).alloc (Nat.le_refl _) _)⟩, by show n - ((j : Int) + 1).toNat < n - (j : Int).toNat; omega⟩
        · rcases hx : inB n v.i.x with _ | _
          · have HX := Lib.hid hx
            have HB := HBad.out (by unfold okB; rw [h0, if_neg (by decide), if_neg (by decide), if_pos (by decide), hx])
            rw [h0] at c0
            clear hx
            go_wp2_with (go_at_call 10; (with_reducible refine (HH.out _ _).mono ?_); rintro e w2 ⟨rfl, rfl⟩; rw [HX.out])
            go_ret
            rw [HB]
            exact ⟨rfl, H.out.2.1.alloc H.out.2.1.size _⟩
          · have HX := Lib.hid hx
            have HOK := Lib.hid (show okB n v.i = true by unfold okB; rw [h0, if_neg (by decide), if_neg (by decide), if_pos (by decide), hx])
            rw [h0] at c0
            clear hx
            go_wp2_with (go_at_call 10; (with_reducible refine (HH.out _ _).mono ?_); rintro e w2 ⟨rfl, rfl⟩; rw [HX.out])
            exact ⟨⟨j + 1, rfl, hlt, HNx.out (by exact HOK.out) _ ((Below.refl _ _).alloc (Nat.le_refl _) _)⟩, by show n - ((j : Int) + 1).toNat < n - (j : Int).toNat; omega⟩
        · rcases hx : inB n v.i.x with _ | _
          · have HX := Lib.hid hx
            have HB := HBad.out (by unfold okB; rw [h0, if_neg (by decide), if_neg (by decide), if_pos (by decide), hx])
            rw [h0] at c0
            clear hx
            go_wp2_with (go_at_call 10; (with_reducible refine (HH.out _ _).mono ?_); rintro e w2 ⟨rfl, rfl⟩; rw [HX.out])
            go_ret
            rw [HB]
            exact ⟨rfl, H.out.2.1.alloc H.out.2.1.size _⟩
          · have HX := Lib.hid hx
            have HOK := Lib.hid (show okB n v.i = true by unfold okB; rw [h0, if_neg (by decide), if_neg (by decide), if_pos (by decide), hx])
            rw [h0] at c0
            clear hx
            go_wp2_with (go_at_call 10; (with_reducible refine (HH.out _ _).mono ?_); rintro e w2 ⟨rfl, rfl⟩; rw [HX.out])
            exact ⟨⟨j + 1, rfl, hlt, HNx.out (by exact HOK.out) _ ((Below.refl _ _).alloc (Nat.le_refl _) _)⟩, by show n - ((j : Int) + 1).toNat < n - (j : Int).toNat; omega⟩
      · have HB := HBad.out (by unfold okB; rw [if_neg h0, if_neg h2, if_neg h3])
        obtain ⟨e0, e1, e2, e3, e4⟩ : (v.i.op == 0) = false ∧ (v.i.op == 1) = false ∧ (v.i.op == 2) = false ∧ (v.i.op == 3) = false ∧ (v.i.op == 4) = false := by
          simp only [beq_eq_false_iff_ne, ne_eq]
          omega
        clear h0 h2 h3
        go_wp2
        go_ret
        rw [HB]
        exact ⟨rfl, H.out.2.1.alloc H.out.2.1.size _⟩
    · obtain rfl : j = n := by omega
      have e := HR.out.trans (right_all HI.out.1 fun i v hv => H.out.1 i v (by have := (List.getElem?_eq_some_iff.1 hv).1; rw [HI.out.1] at this; exact this) hv)
      have q0 := H.out.2.2.1
      have HE := Lib.hid e
      clear e
      go_wp2
      go_ret
      refine ⟨?_, H.out.2.1⟩
      rw [HE.out]
      simp
end Go.Proofs.Ytjpabeeokgfloaa
/- Which programs are right: the document's Right. -/
namespace Go.Proofs.Ytjpabeeokgfloaa
open Go Go.RowKit
set_option linter.unusedVariables false
set_option maxRecDepth 20000

theorem inB_cases (n : Nat) (x : Int) : (inB n x = false ∧ x < 0) ∨ (inB n x = false ∧ ¬ x < 0 ∧ (n : Int) ≤ x) ∨ (inB n x = true ∧ ¬ x < 0 ∧ ¬ (n : Int) ≤ x) := by
  unfold inB
  by_cases h1 : x < 0
  · exact .inl ⟨by rw [decide_eq_false (by omega)]; rfl, h1⟩
  · by_cases h2 : (n : Int) ≤ x
    · exact .inr (.inl ⟨by rw [decide_eq_false (p := x < (n : Int)) (by omega), Bool.and_false], h1, h2⟩)
    · exact .inr (.inr ⟨by rw [decide_eq_true (by omega), decide_eq_true (by omega)]; rfl, h1, h2⟩)
set_option maxHeartbeats 8000000 in
theorem rright_any (A : Option Addr) (n c : Nat) (l : List IV) (w : World) (h : InsAt w A n l) (hn : n ≤ 1000000) :
    Calls Try.prog 6 #[.slice A n c] w fun e w' => e = .returned (.bool (rightB n l)) ∧ Below w.heap.size w w' := by
  have HI := Lib.hid h
  obtain ⟨R, hR⟩ : ∃ R, R = rightB n l := ⟨_, rfl⟩
  rw [← hR]
  have HR := Lib.hid hR
  clear h hR
  go_enter Try.func6, Try.ntmps6
  go_wp2_with fail
  go_loopw [3] (fun vi wr => ∃ j : Nat, vi = .int .i64 (j : Int) ∧ j ≤ n ∧ Hid ((∀ i v, i < j → l[i]? = some v → okB n v.i = true) ∧ Below w.heap.size w wr)) (fun vi _ => n - (match vi with | .int _ j => j.toNat | _ => 0))
  case atStart => exact ⟨0, rfl, Nat.zero_le _, Lib.hid ⟨fun i v hi => absurd hi (by omega), Below.refl _ _⟩⟩
  case round =>
    obtain ⟨j, rfl, hj, H⟩ := hrel
    by_cases hlt : j < n
    · obtain ⟨v, hv⟩ : ∃ v, l[j]? = some v := ⟨_, List.getElem?_eq_getElem (by rw [HI.out.1]; exact hlt)⟩
      obtain ⟨b, o, rfl, hbl, hc⟩ := (HI.out.below H.out.2).2 (by omega)
      have c0 := hc j v hv 0 _ rfl
      have c1 := hc j v hv 1 _ rfl
      have c2 := hc j v hv 2 _ rfl
      have c3 := hc j v hv 3 _ rfl
      rw [Nat.add_zero] at c0
      have HV := Lib.hid hv
      have next : okB n v.i = true → ∀ w2, Below wr.heap.size wr w2 → Hid ((∀ i v, i < j + 1 → l[i]? = some v → okB n v.i = true) ∧ Below w.heap.size w w2) := fun hok w2 hb2 => Lib.hid ⟨fun i v' hi hv' => by
        rcases Nat.lt_or_ge i j with h1 | h1
        · exact H.out.1 i v' h1 hv'
        · obtain rfl : i = j := by omega
          rw [HV.out] at hv'
          injection hv' with hv'
          rw [← hv']; exact hok, H.out.2.trans (hb2.mono H.out.2.size)⟩
      have HNx := Lib.hid next
      have HBad := Lib.hid (show okB n v.i = false → R = false from fun h => HR.out.trans (right_bad HV.out h))
      clear hc hv next hbl
      by_cases h0 : v.i.op = 0
      · have HOK := Lib.hid (show okB n v.i = true by unfold okB; rw [if_pos h0])
        rw [h0] at c0
        clear h0
        go_wp2
        exact ⟨⟨j + 1, rfl, hlt, HNx.out HOK.out _ ((Below.refl _ _).alloc (Nat.le_refl _) _)⟩, by show n - ((j : Int) + 1).toNat < n - (j : Int).toNat; omega⟩
      by_cases h2' : v.i.op = 2
      · have hok : okB n v.i = (inB n v.i.y && inB n v.i.x) := by unfold okB; rw [if_neg h0, if_pos h2']
        rw [h2'] at c0
        clear h0 h2'
        rcases inB_cases n v.i.x with ⟨hb, h1⟩ | ⟨hb, h1, h2⟩ | ⟨hb, h1, h2⟩
        · have HB := Lib.hid (HBad.out (by rw [hok, hb, Bool.and_false]))
          clear hok hb
          go_wp2
          go_ret
          rw [HB.out]
          exact ⟨rfl, H.out.2.alloc H.out.2.size _⟩
        · have HB := Lib.hid (HBad.out (by rw [hok, hb, Bool.and_false]))
          clear hok hb
          go_wp2
          go_ret
          rw [HB.out]
          exact ⟨rfl, H.out.2.alloc H.out.2.size _⟩
        · rcases inB_cases n v.i.y with ⟨hb', h3⟩ | ⟨hb', h3, h4⟩ | ⟨hb', h3, h4⟩
          · have HB := Lib.hid (HBad.out (by rw [hok, hb', Bool.false_and]))
            clear hok hb hb'
            go_wp2
            go_ret
            rw [HB.out]
            exact ⟨rfl, H.out.2.alloc H.out.2.size _⟩
          · have HB := Lib.hid (HBad.out (by rw [hok, hb', Bool.false_and]))
            clear hok hb hb'
            go_wp2
            go_ret
            rw [HB.out]
            exact ⟨rfl, H.out.2.alloc H.out.2.size _⟩
          · have HOK := Lib.hid (show okB n v.i = true by rw [hok, hb, hb']; rfl)
            clear hok hb hb'
            go_wp2
            exact ⟨⟨j + 1, rfl, hlt, HNx.out HOK.out _ ((Below.refl _ _).alloc (Nat.le_refl _) _)⟩, by show n - ((j : Int) + 1).toNat < n - (j : Int).toNat; omega⟩
      by_cases h3 : v.i.op = 1 ∨ v.i.op = 3 ∨ v.i.op = 4
      · clear h0 h2'
        rcases h3 with h0 | h0 | h0
        · have hok : okB n v.i = inB n v.i.x := by unfold okB; rw [h0, if_neg (by decide), if_neg (by decide), if_pos (by decide)]
          rw [h0] at c0
          clear h0
          rcases inB_cases n v.i.x with ⟨hb, h1⟩ | ⟨hb, h1, h2⟩ | ⟨hb, h1, h2⟩
          · have HB := Lib.hid (HBad.out (hok.trans hb))
            clear hok hb
            go_wp2
            go_ret
            rw [HB.out]
            exact ⟨rfl, H.out.2.alloc H.out.2.size _⟩
          · have HB := Lib.hid (HBad.out (hok.trans hb))
            clear hok hb
            go_wp2
            go_ret
            rw [HB.out]
            exact ⟨rfl, H.out.2.alloc H.out.2.size _⟩
          · have HOK := Lib.hid (hok.trans hb)
            clear hok hb
            go_wp2
            exact ⟨⟨j + 1, rfl, hlt, HNx.out HOK.out _ ((Below.refl _ _).alloc (Nat.le_refl _) _)⟩, by show n - ((j : Int) + 1).toNat < n - (j : Int).toNat; omega⟩
        · have hok : okB n v.i = inB n v.i.x := by unfold okB; rw [h0, if_neg (by decide), if_neg (by decide), if_pos (by decide)]
          rw [h0] at c0
          clear h0
          rcases inB_cases n v.i.x with ⟨hb, h1⟩ | ⟨hb, h1, h2⟩ | ⟨hb, h1, h2⟩
          · have HB := Lib.hid (HBad.out (hok.trans hb))
            clear hok hb
            go_wp2
            go_ret
            rw [HB.out]
            exact ⟨rfl, H.out.2.alloc H.out.2.size _⟩
          · have HB := Lib.hid (HBad.out (hok.trans hb))
            clear hok hb
            go_wp2
            go_ret
            rw [HB.out]
            exact ⟨rfl, H.out.2.alloc H.out.2.size _⟩
          · have HOK := Lib.hid (hok.trans hb)
            clear hok hb
            go_wp2
            exact ⟨⟨j + 1, rfl, hlt, HNx.out HOK.out _ ((Below.refl _ _).alloc (Nat.le_refl _) _)⟩, by show n - ((j : Int) + 1).toNat < n - (j : Int).toNat; omega⟩
        · have hok : okB n v.i = inB n v.i.x := by unfold okB; rw [h0, if_neg (by decide), if_neg (by decide), if_pos (by decide)]
          rw [h0] at c0
          clear h0
          rcases inB_cases n v.i.x with ⟨hb, h1⟩ | ⟨hb, h1, h2⟩ | ⟨hb, h1, h2⟩
          · have HB := Lib.hid (HBad.out (hok.trans hb))
            clear hok hb
            go_wp2
            go_ret
            rw [HB.out]
            exact ⟨rfl, H.out.2.alloc H.out.2.size _⟩
          · have HB := Lib.hid (HBad.out (hok.trans hb))
            clear hok hb
            go_wp2
            go_ret
            rw [HB.out]
            exact ⟨rfl, H.out.2.alloc H.out.2.size _⟩
          · have HOK := Lib.hid (hok.trans hb)
            clear hok hb
            go_wp2
            exact ⟨⟨j + 1, rfl, hlt, HNx.out HOK.out _ ((Below.refl _ _).alloc (Nat.le_refl _) _)⟩, by show n - ((j : Int) + 1).toNat < n - (j : Int).toNat; omega⟩
      · have HB := Lib.hid (HBad.out (by unfold okB; rw [if_neg h0, if_neg h2', if_neg h3]))
        by_cases hneg : v.i.op < 0
        · clear h0 h2' h3
          go_wp2
          go_ret
          rw [HB.out]
          exact ⟨rfl, H.out.2.alloc H.out.2.size _⟩
        · have hbig : 4 < v.i.op := by omega
          clear h0 h2' h3
          go_wp2
          go_ret
          rw [HB.out]
          exact ⟨rfl, H.out.2.alloc H.out.2.size _⟩
    · obtain rfl : j = n := by omega
      have HE := Lib.hid (HR.out.trans (right_all HI.out.1 fun i v hv => H.out.1 i v (by have := (List.getElem?_eq_some_iff.1 hv).1; rw [HI.out.1] at this; exact this) hv))
      go_wp2
      go_ret
      refine ⟨?_, H.out.2⟩
      rw [HE.out]
      simp
end Go.Proofs.Ytjpabeeokgfloaa
/- ProgRights: which programs are right. -/
namespace Go.Proofs.Ytjpabeeokgfloaa
open Go Go.RowKit
set_option linter.unusedVariables false
set_option maxRecDepth 20000

set_option maxHeartbeats 4000000 in
theorem rights_any (A : Option Addr) (n c : Nat) (l : List IV) (w : World) (h : InsAt w A n l) :
    Calls Try.prog 3 #[.slice A n c] w fun e w' => e = .returned (.bool true) ∧ Below w.heap.size w w' := by
  have HA := Lib.hid (awakeP_any w)
  have HA2 := Lib.hid fun w => awakeP_any w
  have HI := Lib.hid h
  clear h
  by_cases h40 : 40 < n
  · have h1 : (40 : Int) < (n : Int) := by omega
    go_enter Try.func3, Try.ntmps3
    go_wp2_with (first
      | (go_at_call 4; (with_reducible refine HA.out.mono ?_); rintro e w1 ⟨rfl, hb⟩; have HB := Lib.hid hb; clear hb)
      | (go_at_call 4; (with_reducible refine (HA2.out _).mono ?_); rintro e w2 ⟨rfl, hb⟩; have HB2 := Lib.hid hb; clear hb))
    go_ret
    exact ⟨rfl, HB.out.trans (HB2.out.mono HB.out.size)⟩
  · have h1 : ¬ (40 : Int) < (n : Int) := by omega
    obtain ⟨R, hR⟩ : ∃ R, R = rightB n l := ⟨_, rfl⟩
    have HP := Lib.hid fun (w' : World) (hb : Below w.heap.size w w') => right_any A n c l w' (HI.out.below hb) (by omega)
    have HQ := Lib.hid fun (w' : World) (hb : Below w.heap.size w w') => rright_any A n c l w' (HI.out.below hb) (by omega)
    rw [← hR] at HP HQ
    clear hR
    go_enter Try.func3, Try.ntmps3
    go_wp2_with (first
      | (go_at_call 4; (with_reducible refine HA.out.mono ?_); rintro e w1 ⟨rfl, hb⟩; have HB := Lib.hid hb; clear hb)
      | (go_at_call 5; (with_reducible refine (HP.out _ HB.out).mono ?_); rintro e w2 ⟨rfl, hb⟩; have HB2 := Lib.hid (HB.out.trans (hb.mono HB.out.size)); clear hb)
      | (go_at_call 6; (with_reducible refine (HQ.out _ HB2.out).mono ?_); rintro e w3 ⟨rfl, hb⟩; have HB3 := Lib.hid (HB2.out.trans (hb.mono HB2.out.size)); clear hb))
    go_ret
    refine ⟨?_, HB3.out⟩
    cases R <;> rfl
end Go.Proofs.Ytjpabeeokgfloaa
/- A program that came in: a list of instructions, each a struct of four fields. -/
namespace Go.Proofs.Ytjpabeeokgfloaa
open Go Go.RowKit Go.ChangeShapes Go.WideShapes Go.ChangeAt
set_option linter.unusedVariables false
set_option maxRecDepth 20000

theorem ins_cells : Try.prog.cellsOf 37 = 4 := by kernel_rfl
theorem ins_int : Try.prog.cellsOf 3 = 1 := by kernel_rfl
theorem ins_set : Try.prog.cellsOf 25 = 1 := by kernel_rfl
section
variable {H : Type} {enc : TypeId × Value → H} {W : World} {base : Nat} {held : Bool}
theorem ins_of {a : Option Addr} {len cap fuel : Nat} {x : DataW H × List MemPlace} (hf : DataW.trod enc Try.prog W base (fun _ => true) held fuel 22 [.slice a len cap] = some x) : ∃ xs, InsAt W a len xs := by
  rcases Go.Deep.open_slice Try.underlying22 hf with ⟨hcs, _⟩ | ⟨ad, l, c, m, n, D, Pl, hcs, _, hl, hm, hmm, _, hel⟩
  · simp at hcs
    obtain ⟨rfl, rfl, rfl⟩ := hcs
    exact ⟨[], ⟨rfl, fun h => absurd h (by omega)⟩⟩
  · simp at hcs
    obtain ⟨rfl, rfl, rfl⟩ := hcs
    simp only [if_true] at hmm
    subst hmm
    rw [ins_cells] at hel
    have each : ∀ i, ∃ y : IV, i < m → W.cell? (ad.add (i * 4)) = some (.int .i64 y.i.op) ∧ W.cell? ((ad.add (i * 4)).add 1) = some (.slice y.A y.n y.c) ∧ W.cell? ((ad.add (i * 4)).add 2) = some (.int .i64 y.i.x) ∧ W.cell? ((ad.add (i * 4)).add 3) = some (.int .i64 y.i.y) := by
      intro i
      by_cases hi : i < m
      · obtain ⟨cs', hc, ht⟩ := hel i hi
        obtain ⟨_, hcl, hat⟩ := World.cells?_some hc
        obtain ⟨ys, n', _, _, _, hyl, hfl⟩ := DataW.trod_struct Try.underlying37 ht
        match cs', hcl with
        | [c0, c1, c2, c3], _ =>
          match ys, hyl with
          | [y0, y1, y2, y3], _ =>
            have q0 : DataW.trod enc Try.prog W base (fun _ => true) held n' 3 [c0] = some y0 := by
              have h := hfl 0 _ rfl
              change DataW.trod enc Try.prog W base (fun _ => true) held n' 3 (List.take (Try.prog.cellsOf 3) [c0, c1, c2, c3]) = some y0 at h
              rw [ins_int] at h
              exact h
            have q1 : DataW.trod enc Try.prog W base (fun _ => true) held n' 25 [c1] = some y1 := by
              have h := hfl 1 _ rfl
              change DataW.trod enc Try.prog W base (fun _ => true) held n' 25 (List.take (Try.prog.cellsOf 25) [c1, c2, c3]) = some y1 at h
              rw [ins_set] at h
              exact h
            have q2 : DataW.trod enc Try.prog W base (fun _ => true) held n' 3 [c2] = some y2 := by
              have h := hfl 2 _ rfl
              change DataW.trod enc Try.prog W base (fun _ => true) held n' 3 (List.take (Try.prog.cellsOf 3) [c2, c3]) = some y2 at h
              rw [ins_int] at h
              exact h
            have q3 : DataW.trod enc Try.prog W base (fun _ => true) held n' 3 [c3] = some y3 := by
              have h := hfl 3 _ rfl
              change DataW.trod enc Try.prog W base (fun _ => true) held n' 3 (List.take (Try.prog.cellsOf 3) [c3]) = some y3 at h
              rw [ins_int] at h
              exact h
            obtain ⟨k, e0, _, _⟩ := DataW.trod_int Try.underlying3 q0
            obtain ⟨i2, e2, _, _⟩ := DataW.trod_int Try.underlying3 q2
            obtain ⟨i3, e3, _, _⟩ := DataW.trod_int Try.underlying3 q3
            obtain ⟨D', l', d', hc1⟩ : ∃ D' l' d', c1 = .slice D' l' d' := by
              rcases Go.Deep.open_slice Try.underlying25 q1 with ⟨hcs, _⟩ | ⟨ad', l', c', m', n'', D', Pl', hcs, _⟩
              · simp at hcs
                exact ⟨_, _, _, hcs⟩
              · simp at hcs
                exact ⟨_, _, _, hcs⟩
            injection e0 with e0
            injection e2 with e2
            injection e3 with e3
            have a0 := hat 0 (by omega)
            have a1 := hat 1 (by omega)
            have a2 := hat 2 (by omega)
            have a3 := hat 3 (by omega)
            have hz : (ad.add (i * 4)).add 0 = ad.add (i * 4) := by simp [Addr.add]
            rw [hz] at a0
            refine ⟨⟨⟨k, [], i2, i3⟩, D', l', d'⟩, fun _ => ⟨?_, ?_, ?_, ?_⟩⟩
            · rw [a0, e0]; rfl
            · rw [a1, hc1]; rfl
            · rw [a2, e2]; rfl
            · rw [a3, e3]; rfl
      · exact ⟨⟨⟨0, [], 0, 0⟩, none, 0, 0⟩, fun h => absurd h hi⟩
    obtain ⟨f, hfn⟩ := Classical.axiomOfChoice each
    refine ⟨(List.range len).map f, ⟨by simp, fun hn => ?_⟩⟩
    obtain ⟨b, off, spot⟩ := ad
    obtain ⟨h0, _⟩ := hfn 0 (by omega)
    have hspot : spot = none := by simpa [Addr.add] using World.cell?_spot h0
    subst hspot
    refine ⟨b, off, rfl, World.block_lt_of_cell? W (⟨b, off, none⟩ : Addr) (by simpa [Addr.add] using h0), fun j v hv k u hu => ?_⟩
    have hj : j < len := by have := (List.getElem?_eq_some_iff.1 hv).1; simpa using this
    have hvf : v = f j := by
      rw [List.getElem?_map, List.getElem?_range hj] at hv
      injection hv with hv
      exact hv.symm
    subst hvf
    obtain ⟨g0, g1, g2, g3⟩ := hfn j (by omega)
    have hadd : ∀ (o i : Nat), (⟨b, o, none⟩ : Addr).add i = ⟨b, o + i, none⟩ := fun o i => by unfold Addr.add; split <;> simp_all
    simp only [hadd] at g0 g1 g2 g3
    have hk : k < 4 := (List.getElem?_eq_some_iff.1 hu).1
    rcases (show k = 0 ∨ k = 1 ∨ k = 2 ∨ k = 3 by omega) with rfl | rfl | rfl | rfl
    · injection hu with hu; subst hu; exact g0
    · injection hu with hu; subst hu; exact g1
    · injection hu with hu; subst hu; exact g2
    · injection hu with hu; subst hu; exact g3
end
end Go.Proofs.Ytjpabeeokgfloaa
