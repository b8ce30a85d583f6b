/- Texts. -/
import Derived.Test.YtaapbmdojkjphaaGreatZ05
import Derived.Test.YtaapbmdojkjphaaGreatZ06
namespace Go.Proofs.YtaapbmdojkjphaaGreat
open Go Go.RowKit
set_option linter.unusedVariables false
set_option maxRecDepth 20000
def InsAt (w : World) (A : Option Addr) (n : Nat) (l : List IV) : Prop :=
  l.length = n ∧ (0 < n → ∃ b o, A = some ⟨b, o, none⟩ ∧ b < w.heap.size ∧ ∀ j v, l[j]? = some v → ∀ k u, v.cells[k]? = some u → w.cell? ⟨b, o + j * 4 + k, none⟩ = some u)
theorem InsAt.below {w w' : World} {A : Option Addr} {n : Nat} {l : List IV} (h : InsAt w A n l) (hb : Below w.heap.size w w') : InsAt w' A n l := by
  refine ⟨h.1, fun hn => ?_⟩
  obtain ⟨b, o, hA, hlt, hc⟩ := h.2 hn
  exact ⟨b, o, hA, Nat.lt_of_lt_of_le hlt hb.size, fun j v hv k u hu => (hb.cell (p := ⟨b, o + j * 4 + k, none⟩) hlt).trans (hc j v hv k u hu)⟩
def inB (n : Nat) (x : Int) : Bool := decide (0 ≤ x) && decide (x < (n : Int))
def okB (n : Nat) (v : InstL) : Bool := if v.op = 0 then true else if v.op = 2 then inB n v.y && inB n v.x else if v.op = 1 ∨ v.op = 3 ∨ v.op = 4 then inB n v.x else false
def rightB (n : Nat) (l : List IV) : Bool := l.all (fun v => okB n v.i) && decide (0 < n)
theorem right_bad {n j : Nat} {l : List IV} {v : IV} (h : l[j]? = some v) (hb : okB n v.i = false) : rightB n l = false := by
  unfold rightB
  rw [Bool.and_eq_false_iff]
  left
  rw [List.all_eq_false]
  exact ⟨v, List.mem_of_getElem? h, by rw [hb]; decide⟩
theorem right_all {n : Nat} {l : List IV} (hl : l.length = n) (h : ∀ (j : Nat) (v : IV), l[j]? = some v → okB n v.i = true) : rightB n l = decide (0 < n) := by
  unfold rightB
  rw [show l.all (fun v => okB n v.i) = true from List.all_eq_true.2 fun v hv => by
    obtain ⟨j, hj⟩ := List.getElem?_of_mem hv
    exact h j v hj, Bool.true_and]
set_option maxHeartbeats 2000000 in
theorem has_any (bx n c : Nat) (A : Option Addr) (x : Int) (w : World) (h : w.cell? ⟨bx, 0, none⟩ = some (.slice A n c)) :
    Calls Tryz.prog 82 #[.int .i64 x, .pointer (some ⟨bx, 0, none⟩)] w fun e w' => e = .returned (.bool (inB n x)) ∧ w = w' := by
  by_cases h1 : 0 ≤ x
  · have hd : inB n x = decide (x < (n : Int)) := by unfold inB; rw [decide_eq_true h1, Bool.true_and]
    rw [hd]
    have g0 : decide (x ≥ 0) = true := decide_eq_true h1
    go_enter Tryz.func82, Tryz.ntmps82
    go_wp2
    go_ret
    exact ⟨rfl, rfl⟩
  · have hd : inB n x = false := by unfold inB; rw [decide_eq_false h1, Bool.false_and]
    rw [hd]
    go_enter Tryz.func82, Tryz.ntmps82
    go_wp2
    go_ret
    exact ⟨rfl, rfl⟩
set_option maxHeartbeats 8000000 in
theorem right_any (A : Option Addr) (n c : Nat) (l : List IV) (w : World) (h : InsAt w A n l) (hn : n ≤ 1000000) :
    Calls Tryz.prog 48 #[.slice A n c] w fun e w' => e = .returned (.bool (rightB n l)) ∧ Below w.heap.size w w' := by
  have HI := Lib.hid h
  obtain ⟨R, hR⟩ : ∃ R, R = rightB n l := ⟨_, rfl⟩
  rw [← hR]
  have HR := Lib.hid hR
  clear h hR
  go_enter Tryz.func48, Tryz.ntmps48
  go_wp2_with fail
  go_loopw [9] (fun vi wr => ∃ j : Nat, vi = .int .i64 (j : Int) ∧ j ≤ n ∧ Hid ((∀ i v, i < j → l[i]? = some v → okB n v.i = true) ∧ Below w.heap.size w wr ∧ wr.cell? ⟨w.heap.size, 0, none⟩ = some (.slice A n c) ∧ w.heap.size < wr.heap.size)) (fun vi _ => n - (match vi with | .int _ j => j.toNat | _ => 0))
  case atStart => exact ⟨0, rfl, Nat.zero_le _, Lib.hid ⟨fun i v hi => absurd hi (by omega), (Below.refl _ _).alloc (Nat.le_refl _) _, cell_of_row _ w.heap.size 0 _ _ (0, 0) (heap_alloc_new w _), by simp⟩⟩
  case round =>
    obtain ⟨j, rfl, hj, H⟩ := hrel
    by_cases hlt : j < n
    · obtain ⟨v, hv⟩ : ∃ v, l[j]? = some v := ⟨_, List.getElem?_eq_getElem (by rw [HI.out.1]; exact hlt)⟩
      obtain ⟨b, o, rfl, hbl, hc⟩ := (HI.out.below H.out.2.1).2 (by omega)
      have c0 := hc j v hv 0 _ rfl
      have c1 := hc j v hv 1 _ rfl
      have c2 := hc j v hv 2 _ rfl
      have c3 := hc j v hv 3 _ rfl
      rw [Nat.add_zero] at c0
      have HV := Lib.hid hv
      have HH := Lib.hid fun (x : Int) (o' : Obj) => has_any w.heap.size n c (some ⟨b, o, none⟩) x (wr.alloc o') (((Below.refl wr.heap.size wr).alloc (Nat.le_refl _) o').cell (p := ⟨w.heap.size, 0, none⟩) H.out.2.2.2 |>.trans H.out.2.2.1)
      have next : okB n v.i = true → ∀ w2, Below wr.heap.size wr w2 → Hid ((∀ i v, i < j + 1 → l[i]? = some v → okB n v.i = true) ∧ Below w.heap.size w w2 ∧ w2.cell? ⟨w.heap.size, 0, none⟩ = some (.slice (some ⟨b, o, none⟩) n c) ∧ w.heap.size < w2.heap.size) := fun hok w2 hb2 => Lib.hid ⟨fun i v' hi hv' => by
        rcases Nat.lt_or_ge i j with h1 | h1
        · exact H.out.1 i v' h1 hv'
        · obtain rfl : i = j := by omega
          rw [HV.out] at hv'
          injection hv' with hv'
          rw [← hv']; exact hok, H.out.2.1.trans (hb2.mono H.out.2.1.size), (hb2.cell (p := ⟨w.heap.size, 0, none⟩) H.out.2.2.2).trans H.out.2.2.1, Nat.lt_of_lt_of_le H.out.2.2.2 hb2.size⟩
      have HNx := Lib.hid next
      have bad : okB n v.i = false → R = false := fun h => HR.out.trans (right_bad HV.out h)
      have HBad := Lib.hid bad
      clear hc hv next bad hbl
      by_cases h0 : v.i.op = 0
      · rw [h0] at c0
        go_wp2
        exact ⟨⟨j + 1, rfl, hlt, HNx.out (by unfold okB; rw [if_pos h0]) _ ((Below.refl _ _).alloc (Nat.le_refl _) _)⟩, by show n - ((j : Int) + 1).toNat < n - (j : Int).toNat; omega⟩
      by_cases h2 : v.i.op = 2
      · have hok : okB n v.i = (inB n v.i.y && inB n v.i.x) := by unfold okB; rw [if_neg h0, if_pos h2]
        rw [h2] at c0
        rcases hy : inB n v.i.y with _ | _
        · have HB := HBad.out (by rw [hok, hy]; rfl)
          have HY := Lib.hid hy
          clear hy hok h0 h2
          go_wp2_with (go_at_call 82; (with_reducible refine (HH.out _ _).mono ?_); rintro e w2 ⟨rfl, rfl⟩; rw [HY.out])
          go_ret
          rw [HB]
          exact ⟨rfl, H.out.2.1.alloc H.out.2.1.size _⟩
        · rcases hx : inB n v.i.x with _ | _
          · have HB := HBad.out (by rw [hok, hy, hx]; rfl)
            have HY := Lib.hid hy
            have HX := Lib.hid hx
            clear hy hx hok h0 h2
            go_wp2_with (go_at_call 82; (with_reducible refine (HH.out _ _).mono ?_); rintro e w2 ⟨rfl, rfl⟩; first | rw [HY.out] | rw [HX.out])
            go_ret
            rw [HB]
            exact ⟨rfl, H.out.2.1.alloc H.out.2.1.size _⟩
          · have HOK := Lib.hid (show okB n v.i = true by rw [hok, hy, hx]; rfl)
            have HY := Lib.hid hy
            have HX := Lib.hid hx
            clear hy hx hok h0 h2
            go_wp2_with (go_at_call 82; (with_reducible refine (HH.out _ _).mono ?_); rintro e w2 ⟨rfl, rfl⟩; first | rw [HY.out] | rw [HX.out])
            exact ⟨⟨j + 1, rfl, hlt, HNx.out (by exact HOK.out) _ ((Below.refl _ _).alloc (Nat.le_refl _) _)⟩, by show n - ((j : Int) + 1).toNat < n - (j : Int).toNat; omega⟩
      by_cases h3 : v.i.op = 1 ∨ v.i.op = 3 ∨ v.i.op = 4
      · clear h0 h2
        rcases h3 with h0 | h0 | h0
        · rcases hx : inB n v.i.x with _ | _
          · have HX := Lib.hid hx
            have HB := HBad.out (by unfold okB; rw [h0, if_neg (by decide), if_neg (by decide), if_pos (by decide), hx])
            rw [h0] at c0
            clear hx
            go_wp2_with (go_at_call 82; (with_reducible refine (HH.out _ _).mono ?_); rintro e w2 ⟨rfl, rfl⟩; rw [HX.out])
            go_ret
            rw [HB]
            exact ⟨rfl, H.out.2.1.alloc H.out.2.1.size _⟩
          · have HX := Lib.hid hx
            have HOK := Lib.hid (show okB n v.i = true by unfold okB; rw [h0, if_neg (by decide), if_neg (by decide), if_pos (by decide), hx])
            rw [h0] at c0
            clear hx
            go_wp2_with (go_at_call 82; (with_reducible refine (HH.out _ _).mono ?_); rintro e w2 ⟨rfl, rfl⟩; rw [HX.out])
            exact ⟨⟨j + 1, rfl, hlt, HNx.out (by exact HOK.out) _ ((Below.refl _ _).alloc (Nat.le_refl _) _)⟩, by show n - ((j : Int) + 1).toNat < n - (j : Int).toNat; omega⟩
        · rcases hx : inB n v.i.x with _ | _
          · have HX := Lib.hid hx
            have HB := HBad.out (by unfold okB; rw [h0, if_neg (by decide), if_neg (by decide), if_pos (by decide), hx])
            rw [h0] at c0
            clear hx
            go_wp2_with (go_at_call 82; (with_reducible refine (HH.out _ _).mono ?_); rintro e w2 ⟨rfl, rfl⟩; rw [HX.out])
            go_ret
            rw [HB]
            exact ⟨rfl, H.out.2.1.alloc H.out.2.1.size _⟩
          · have HX := Lib.hid hx
            have HOK := Lib.hid (show okB n v.i = true by unfold okB; rw [h0, if_neg (by decide), if_neg (by decide), if_pos (by decide), hx])
            rw [h0] at c0
            clear hx
            go_wp2_with (go_at_call 82; (with_reducible refine (HH.out _ _).mono ?_); rintro e w2 ⟨rfl, rfl⟩; rw [HX.out])
            exact ⟨⟨j + 1, rfl, hlt, HNx.out (by exact HOK.out) _ ((Below.refl _ _).alloc (Nat.le_refl _) _)⟩, by show n - ((j : Int) + 1).toNat < n - (j : Int).toNat; omega⟩
        · rcases hx : inB n v.i.x with _ | _
          · have HX := Lib.hid hx
            have HB := HBad.out (by unfold okB; rw [h0, if_neg (by decide), if_neg (by decide), if_pos (by decide), hx])
            rw [h0] at c0
            clear hx
            go_wp2_with (go_at_call 82; (with_reducible refine (HH.out _ _).mono ?_); rintro e w2 ⟨rfl, rfl⟩; rw [HX.out])
            go_ret
            rw [HB]
            exact ⟨rfl, H.out.2.1.alloc H.out.2.1.size _⟩
          · have HX := Lib.hid hx
            have HOK := Lib.hid (show okB n v.i = true by unfold okB; rw [h0, if_neg (by decide), if_neg (by decide), if_pos (by decide), hx])
            rw [h0] at c0
            clear hx
            go_wp2_with (go_at_call 82; (with_reducible refine (HH.out _ _).mono ?_); rintro e w2 ⟨rfl, rfl⟩; rw [HX.out])
            exact ⟨⟨j + 1, rfl, hlt, HNx.out (by exact HOK.out) _ ((Below.refl _ _).alloc (Nat.le_refl _) _)⟩, by show n - ((j : Int) + 1).toNat < n - (j : Int).toNat; omega⟩
      · have HB := HBad.out (by unfold okB; rw [if_neg h0, if_neg h2, if_neg h3])
        obtain ⟨e0, e1, e2, e3, e4⟩ : (v.i.op == 0) = false ∧ (v.i.op == 1) = false ∧ (v.i.op == 2) = false ∧ (v.i.op == 3) = false ∧ (v.i.op == 4) = false := by
          simp only [beq_eq_false_iff_ne, ne_eq]
          omega
        clear h0 h2 h3
        go_wp2
        go_ret
        rw [HB]
        exact ⟨rfl, H.out.2.1.alloc H.out.2.1.size _⟩
    · obtain rfl : j = n := by omega
      have e := HR.out.trans (right_all HI.out.1 fun i v hv => H.out.1 i v (by have := (List.getElem?_eq_some_iff.1 hv).1; rw [HI.out.1] at this; exact this) hv)
      have q0 := H.out.2.2.1
      have HE := Lib.hid e
      clear e
      go_wp2
      go_ret
      refine ⟨?_, H.out.2.1⟩
      rw [HE.out]
      simp
end Go.Proofs.YtaapbmdojkjphaaGreat
namespace Go.Proofs.YtaapbmdojkjphaaGreat
set_option linter.unusedVariables false
def outs (v : InstL) : List Nat := if v.op = 0 then [] else if v.op = 2 then [v.x.toNat, v.y.toNat] else [v.x.toNat]
def openA (m k : Nat) (op : Int) : Bool := decide (op = 2) || (decide (op = 3) && decide (k = 0)) || (decide (op = 4) && decide (k = m))
def EdgeE (p : List InstL) (m k : Nat) (i j : Nat) : Prop := ∃ v, p[i]? = some v ∧ j ∈ outs v ∧ openA m k v.op = true
def EdgeC (p : List InstL) (r : Int) (i j : Nat) : Prop := ∃ v, p[i]? = some v ∧ j ∈ outs v ∧ v.op = 1 ∧ hasL v.set r = true
def IsEnd (p : List InstL) (i : Nat) : Prop := ∃ v, p[i]? = some v ∧ v.op = 0
inductive Star (E : Nat → Nat → Prop) (i : Nat) : Nat → Prop
  | refl : Star E i i
  | tail {j k} : Star E i j → E j k → Star E i k
theorem Star.head {E : Nat → Nat → Prop} {i j k : Nat} (e : E i j) (h : Star E j k) : Star E i k := by
  induction h with
  | refl => exact .tail .refl e
  | tail _ e2 ih => exact .tail ih e2
theorem Star.trans {E : Nat → Nat → Prop} {i j k : Nat} (h1 : Star E i j) (h2 : Star E j k) : Star E i k := by
  induction h2 with
  | refl => exact h1
  | tail _ e2 ih => exact .tail ih e2
theorem Star.swap {E F : Nat → Nat → Prop} (hEF : ∀ a b, E a b → F b a) {i j : Nat} (h : Star E i j) : Star F j i := by
  induction h with
  | refl => exact .refl
  | tail _ e ih => exact .head (hEF _ _ e) ih
theorem Star.mono {E F : Nat → Nat → Prop} (hEF : ∀ a b, E a b → F a b) {i j : Nat} (h : Star E i j) : Star F i j := by
  induction h with
  | refl => exact .refl
  | tail _ e ih => exact .tail ih (hEF _ _ e)
inductive Rch (p : List InstL) (rs : List Int) (i a : Nat) : Nat → Nat → Prop
  | refl : Rch p rs i a i a
  | eps {j k b} : Rch p rs i a j b → EdgeE p rs.length b j k → Rch p rs i a k b
  | chr {j k b r} : Rch p rs i a j b → rs[b]? = some r → EdgeC p r j k → Rch p rs i a k (b + 1)
section
variable {p : List InstL} {rs : List Int} {i a j b k c : Nat}
theorem Rch.trans (h1 : Rch p rs i a j b) (h2 : Rch p rs j b k c) : Rch p rs i a k c := by
  induction h2 with
  | refl => exact h1
  | eps _ e ih => exact .eps ih e
  | chr _ hr e ih => exact .chr ih hr e
theorem Rch.le (h : Rch p rs i a j b) : a ≤ b := by
  induction h with
  | refl => exact Nat.le_refl _
  | eps _ _ ih => exact ih
  | chr _ _ _ ih => omega
theorem Rch.lt (h : Rch p rs i a j b) (ha : a ≤ rs.length) : b ≤ rs.length := by
  induction h with
  | refl => exact ha
  | eps _ _ ih => exact ih
  | chr _ hr _ _ => have := (List.getElem?_eq_some_iff.1 hr).1; omega
theorem Rch.star (h : Star (EdgeE p rs.length a) i j) : Rch p rs i a j a := by
  induction h with
  | refl => exact .refl
  | tail _ e ih => exact .eps ih e
theorem Rch.back (h : Rch p rs i a j b) : (a = b ∧ Star (EdgeE p rs.length b) i j) ∨ ∃ b' r u v, b = b' + 1 ∧ Rch p rs i a u b' ∧ rs[b']? = some r ∧ EdgeC p r u v ∧ Star (EdgeE p rs.length b) v j := by
  induction h with
  | refl => exact .inl ⟨rfl, .refl⟩
  | eps _ e ih =>
    rcases ih with ⟨h1, h2⟩ | ⟨b', r, u, v, h1, h2, h3, h4, h5⟩
    · exact .inl ⟨h1, .tail h2 e⟩
    · exact .inr ⟨b', r, u, v, h1, h2, h3, h4, .tail h5 e⟩
  | chr h hr e ih => exact .inr ⟨_, _, _, _, rfl, h, hr, e, .refl⟩
theorem Rch.front (h : Rch p rs i a j b) : (a = b ∧ Star (EdgeE p rs.length a) i j) ∨ ∃ r u v, Star (EdgeE p rs.length a) i u ∧ rs[a]? = some r ∧ EdgeC p r u v ∧ Rch p rs v (a + 1) j b := by
  induction h with
  | refl => exact .inl ⟨rfl, .refl⟩
  | eps _ e ih =>
    rcases ih with ⟨h1, h2⟩ | ⟨r, u, v, h2, h3, h4, h5⟩
    · subst h1
      exact .inl ⟨rfl, .tail h2 e⟩
    · exact .inr ⟨r, u, v, h2, h3, h4, .eps h5 e⟩
  | chr h hr e ih =>
    rcases ih with ⟨h1, h2⟩ | ⟨r, u, v, h2, h3, h4, h5⟩
    · subst h1
      exact .inr ⟨_, _, _, h2, hr, e, .refl⟩
    · exact .inr ⟨r, u, v, h2, h3, h4, .chr h5 hr e⟩
theorem Rch.mid (h : Rch p rs i a j b) (hc : a ≤ c) (hcb : c ≤ b) : ∃ u, Rch p rs i a u c ∧ Rch p rs u c j b := by
  induction h with
  | refl => obtain rfl : c = a := by omega
            exact ⟨i, .refl, .refl⟩
  | eps h e ih =>
    obtain ⟨u, h1, h2⟩ := ih hcb
    exact ⟨u, h1, .eps h2 e⟩
  | @chr j' k' b' r h hr e ih =>
    rcases Nat.lt_or_ge b' c with hl | hl
    · obtain rfl : c = b' + 1 := by omega
      exact ⟨_, .chr h hr e, .refl⟩
    · obtain ⟨u, h1, h2⟩ := ih hl
      exact ⟨u, h1, .chr h2 hr e⟩
end
def Hits (p : List InstL) (rs : List Int) (a b : Nat) : Prop := ∃ i, Rch p rs 0 a i b ∧ IsEnd p i
def Long (p : List InstL) (rs : List Int) (a : Nat) : Option Nat → Prop
  | none => ∀ b, ¬ Hits p rs a b
  | some b => Hits p rs a b ∧ ∀ b', Hits p rs a b' → b' ≤ b
theorem Long.uniq {p : List InstL} {rs : List Int} {a : Nat} {x y : Option Nat} (hx : Long p rs a x) (hy : Long p rs a y) : x = y := by
  cases x with
  | none => cases y with
    | none => rfl
    | some b => exact absurd hy.1 (hx b)
  | some b => cases y with
    | none => exact absurd hx.1 (hy b)
    | some c => have h1 := hx.2 c hy.1; have h2 := hy.2 b hx.1; rw [show b = c by omega]
theorem pw_all {α : Type} {R : α → α → Prop} : ∀ (l : List α), (∀ a b, R a b) → l.Pairwise R
  | [], _ => .nil
  | a :: l, h => .cons (fun b _ => h a b) (pw_all l h)
def Met (E : Nat → Nat → Prop) (h h' : List (Nat × Nat)) (i f : Nat) : Prop :=
  ∃ new : List Nat, h' = h ++ new.map (fun j => (j, f)) ∧ (∀ j ∈ new, Star E i j) ∧ i ∈ h'.map Prod.fst ∧ (∀ j ∈ new, ∀ k, E j k → k ∈ h'.map Prod.fst) ∧ (h'.map Prod.fst).Nodup
inductive Steps (E : Nat → Nat → Prop) : List (Nat × Nat) → List (Nat × Nat) → Prop
  | nil : Steps E [] []
  | snoc {todo h h' i f} : Steps E todo h → Met E h h' i f → Steps E (todo ++ [(i, f)]) h'
section
variable {E : Nat → Nat → Prop} {R : Nat → Nat → Prop} {todo h : List (Nat × Nat)}
theorem Steps.nodup (s : Steps E todo h) : (h.map Prod.fst).Nodup := by
  cases s with
  | nil => simp
  | snoc _ m => obtain ⟨new, _, _, _, _, hn⟩ := m; exact hn
theorem Steps.sound (s : Steps E todo h) : ∀ j f, (j, f) ∈ h → ∃ i, (i, f) ∈ todo ∧ Star E i j := by
  induction s with
  | nil => intro j f hm; simp at hm
  | @snoc todo h h' i f0 s m ih =>
    obtain ⟨new, rfl, hs, _, _, _⟩ := m
    intro j f hm
    rcases List.mem_append.1 hm with hm | hm
    · obtain ⟨i', h1, h2⟩ := ih j f hm
      exact ⟨i', List.mem_append_left _ h1, h2⟩
    · obtain ⟨j', hj, e⟩ := List.mem_map.1 hm
      injection e with e1 e2
      subst e1; subst e2
      exact ⟨i, by simp, hs _ hj⟩
theorem Steps.sorted (s : Steps E todo h) (ht : todo.Pairwise fun x y => R x.2 y.2) (hr : ∀ a, R a a) : h.Pairwise fun x y => R x.2 y.2 := by
  induction s with
  | nil => exact .nil
  | @snoc todo h h' i f s m ih =>
    obtain ⟨new, rfl, _, _, _, _⟩ := m
    rw [List.pairwise_append] at ht
    obtain ⟨h1, _, h3⟩ := ht
    rw [List.pairwise_append]
    refine ⟨ih h1, ?_, ?_⟩
    · rw [List.pairwise_map]
      exact pw_all _ (fun _ _ => hr f)
    · intro x hx y hy
      obtain ⟨j', _, rfl⟩ := List.mem_map.1 hy
      obtain ⟨i', h4, _⟩ := s.sound x.1 x.2 hx
      exact h3 _ h4 (i, f) (List.mem_singleton.2 rfl)
theorem Steps.all (s : Steps E todo h) (ht : todo.Pairwise fun x y => R x.2 y.2) (hr : ∀ a, R a a) (htr : ∀ a b c, R a b → R b c → R a c) :
    (∀ i f, (i, f) ∈ todo → ∃ f', (i, f') ∈ h ∧ R f' f) ∧ (∀ j f, (j, f) ∈ h → ∀ k, E j k → ∃ f', (k, f') ∈ h ∧ R f' f) := by
  induction s with
  | nil => exact ⟨fun i f hm => by simp at hm, fun i f hm => by simp at hm⟩
  | @snoc todo h h' i f s m ih =>
    have ht' := ht
    rw [List.pairwise_append] at ht'
    obtain ⟨h1, _, h3⟩ := ht'
    obtain ⟨ih1, ih2⟩ := ih h1
    have hle : ∀ x ∈ h', R x.2 f := by
      intro x hx
      obtain ⟨i', h4, _⟩ := (Steps.snoc s m).sound x.1 x.2 hx
      rcases List.mem_append.1 h4 with h5 | h5
      · exact h3 _ h5 (i, f) (List.mem_singleton.2 rfl)
      · simp at h5; rw [h5.2]; exact hr _
    obtain ⟨new, rfl, hs, hi, hc, _⟩ := m
    have get : ∀ k, k ∈ (h ++ new.map fun j => (j, f)).map Prod.fst → ∃ f', (k, f') ∈ h ++ new.map (fun j => (j, f)) ∧ R f' f := by
      intro k hk
      obtain ⟨x, hx, rfl⟩ := List.mem_map.1 hk
      exact ⟨x.2, hx, hle x hx⟩
    refine ⟨fun i' f' hm => ?_, fun j f' hm k e => ?_⟩
    · rcases List.mem_append.1 hm with hm | hm
      · obtain ⟨f'', h4, h5⟩ := ih1 i' f' hm
        exact ⟨f'', List.mem_append_left _ h4, h5⟩
      · simp at hm
        obtain ⟨rfl, rfl⟩ := hm
        exact get _ hi
    · rcases List.mem_append.1 hm with hm | hm
      · obtain ⟨f'', h4, h5⟩ := ih2 j f' hm k e
        exact ⟨f'', List.mem_append_left _ h4, h5⟩
      · obtain ⟨j', hj, e1⟩ := List.mem_map.1 hm
        injection e1 with e1 e2
        subst e1; subst e2
        exact get _ (hc _ hj _ e)
theorem Steps.star (s : Steps E todo h) (ht : todo.Pairwise fun x y => R x.2 y.2) (hr : ∀ a, R a a) (htr : ∀ a b c, R a b → R b c → R a c) {i j f : Nat} (hm : (i, f) ∈ todo) (hs : Star E i j) : ∃ f', (j, f') ∈ h ∧ R f' f := by
  obtain ⟨h1, h2⟩ := s.all ht hr htr
  induction hs with
  | refl => exact h1 _ _ hm
  | tail _ e ih =>
    obtain ⟨f', h3, h4⟩ := ih
    obtain ⟨f'', h5, h6⟩ := h2 _ _ h3 _ e
    exact ⟨f'', h5, htr _ _ _ h6 h4⟩
end
def WE (p : List InstL) (W : List (List (Nat × Nat))) (m k : Nat) (i j : Nat) : Prop := ∃ ws by_ v, W[i]? = some ws ∧ (by_, j) ∈ ws ∧ p[by_]? = some v ∧ openA m k v.op = true
def takes (p : List InstL) (r : Int) (w : Nat × Nat) : Bool := match p[w.1]? with | some v => decide (v.op = 1) && hasL v.set r | none => false
def meets (p : List InstL) (W : List (List (Nat × Nat))) (r : Int) (last : List (Nat × Nat)) : List (Nat × Nat) :=
  last.flatMap fun s => ((W.getD s.1 []).filter (takes p r)).map fun w => (w.2, s.2)
theorem mem_meets {p : List InstL} {W : List (List (Nat × Nat))} {r : Int} {last : List (Nat × Nat)} {j f : Nat} : (j, f) ∈ meets p W r last ↔ ∃ i ws by_ v, (i, f) ∈ last ∧ W[i]? = some ws ∧ (by_, j) ∈ ws ∧ p[by_]? = some v ∧ v.op = 1 ∧ hasL v.set r = true := by
  unfold meets
  rw [List.mem_flatMap]
  constructor
  · rintro ⟨⟨i, f'⟩, h1, h2⟩
    obtain ⟨⟨b, t⟩, h3, h4⟩ := List.mem_map.1 h2
    injection h4 with h4 h5
    subst h4; subst h5
    obtain ⟨h6, h7⟩ := List.mem_filter.1 h3
    unfold takes at h7
    cases hv : p[b]? with
    | none => rw [hv] at h7; cases h7
    | some v =>
      rw [hv] at h7
      simp only [Bool.and_eq_true, decide_eq_true_eq] at h7
      cases hw : W[i]? with
      | none => rw [List.getD, hw] at h6; simp at h6
      | some ws =>
        rw [List.getD, hw] at h6
        exact ⟨i, ws, b, v, h1, hw, h6, hv, h7.1, h7.2⟩
  · rintro ⟨i, ws, b, v, h1, h2, h3, h4, h5, h6⟩
    refine ⟨(i, f), h1, List.mem_map.2 ⟨(b, j), List.mem_filter.2 ⟨?_, ?_⟩, rfl⟩⟩
    · rw [List.getD, h2]; exact h3
    · unfold takes; rw [h4]; simp [h5, h6]
theorem meets_sorted {R : Nat → Nat → Prop} {p : List InstL} {W : List (List (Nat × Nat))} {r : Int} {last : List (Nat × Nat)} (hl : last.Pairwise fun x y => R x.2 y.2) (hr : ∀ a, R a a) : (meets p W r last).Pairwise fun x y => R x.2 y.2 := by
  unfold meets
  induction last with
  | nil => exact .nil
  | cons s l ih =>
    rw [List.pairwise_cons] at hl
    rw [List.flatMap_cons, List.pairwise_append]
    refine ⟨?_, ih hl.2, ?_⟩
    · rw [List.pairwise_map]; exact pw_all _ (fun _ _ => hr _)
    · intro x hx y hy
      obtain ⟨_, _, rfl⟩ := List.mem_map.1 hx
      obtain ⟨s', h1, h2⟩ := List.mem_flatMap.1 hy
      obtain ⟨_, _, rfl⟩ := List.mem_map.1 h2
      exact hl.1 s' h1
theorem meets_snoc {p : List InstL} {W : List (List (Nat × Nat))} {r : Int} (l : List (Nat × Nat)) (s : Nat × Nat) : meets p W r (l ++ [s]) = meets p W r l ++ ((W.getD s.1 []).filter (takes p r)).map fun w => (w.2, s.2) := by simp [meets]
end Go.Proofs.YtaapbmdojkjphaaGreat
namespace Go.Proofs.YtaapbmdojkjphaaGreat
set_option linter.unusedVariables false
def Within (p : List InstL) : Prop := 0 < p.length ∧ ∀ (i : Nat) (v : InstL), p[i]? = some v → ∀ j ∈ outs v, j < p.length
def Onward (p : List InstL) (W : List (List (Nat × Nat))) : Prop := W.length = p.length ∧ ∀ (i : Nat) (ws : List (Nat × Nat)), W[i]? = some ws → ∀ b t, (b, t) ∈ ws ↔ (b = i ∧ ∃ v, p[i]? = some v ∧ t ∈ outs v)
def BackW (p : List InstL) (W : List (List (Nat × Nat))) : Prop := W.length = p.length ∧ ∀ (i : Nat) (ws : List (Nat × Nat)), W[i]? = some ws → ∀ b t, (b, t) ∈ ws ↔ (b = t ∧ ∃ v, p[t]? = some v ∧ i ∈ outs v)
def WaysIn (p : List InstL) (W : List (List (Nat × Nat))) : Prop := W.length = p.length ∧ ∀ (i : Nat) (ws : List (Nat × Nat)), W[i]? = some ws → ∀ b t, (b, t) ∈ ws → b < p.length ∧ t < p.length
section
variable {p : List InstL} {W : List (List (Nat × Nat))} {m k i j : Nat} {r : Int}
theorem Onward.waysIn (h : Onward p W) (hp : Within p) : WaysIn p W := ⟨h.1, fun i ws hw b t hb => by
  obtain ⟨rfl, v, hv, ht⟩ := (h.2 i ws hw b t).1 hb
  exact ⟨(List.getElem?_eq_some_iff.1 hv).1, hp.2 _ v hv t ht⟩⟩
theorem BackW.waysIn (h : BackW p W) (hp : Within p) : WaysIn p W := ⟨h.1, fun i ws hw b t hb => by
  obtain ⟨rfl, v, hv, ht⟩ := (h.2 i ws hw b t).1 hb
  exact ⟨(List.getElem?_eq_some_iff.1 hv).1, (List.getElem?_eq_some_iff.1 hv).1⟩⟩
theorem Onward.we (h : Onward p W) : WE p W m k i j ↔ EdgeE p m k i j := by
  constructor
  · rintro ⟨ws, b, v, h1, h2, h3, h4⟩
    obtain ⟨rfl, v', h5, h6⟩ := (h.2 i ws h1 b j).1 h2
    rw [h3] at h5; injection h5 with h5; subst h5
    exact ⟨v, h3, h6, h4⟩
  · rintro ⟨v, h1, h2, h3⟩
    have hi := (List.getElem?_eq_some_iff.1 h1).1
    obtain ⟨_, hw⟩ : ∃ ws, W[i]? = some ws := ⟨_, List.getElem?_eq_getElem (by rw [h.1]; exact hi)⟩
    exact ⟨_, i, v, hw, (h.2 i _ hw i j).2 ⟨rfl, v, h1, h2⟩, h1, h3⟩
theorem BackW.we (h : BackW p W) (hp : Within p) : WE p W m k i j ↔ EdgeE p m k j i := by
  constructor
  · rintro ⟨ws, b, v, h1, h2, h3, h4⟩
    obtain ⟨rfl, v', h5, h6⟩ := (h.2 i ws h1 b j).1 h2
    rw [h3] at h5; injection h5 with h5; subst h5
    exact ⟨v, h3, h6, h4⟩
  · rintro ⟨v, h1, h2, h3⟩
    have hi := hp.2 j v h1 i h2
    obtain ⟨_, hw⟩ : ∃ ws, W[i]? = some ws := ⟨_, List.getElem?_eq_getElem (by rw [h.1]; exact hi)⟩
    exact ⟨_, j, v, hw, (h.2 i _ hw j j).2 ⟨rfl, v, h1, h2⟩, h1, h3⟩
theorem Onward.meets (h : Onward p W) {last : List (Nat × Nat)} {f : Nat} : (j, f) ∈ meets p W r last ↔ ∃ i, (i, f) ∈ last ∧ EdgeC p r i j := by
  rw [mem_meets]
  constructor
  · rintro ⟨i, ws, b, v, h1, h2, h3, h4, h5, h6⟩
    obtain ⟨rfl, v', h7, h8⟩ := (h.2 i ws h2 b j).1 h3
    rw [h4] at h7; injection h7 with h7; subst h7
    exact ⟨_, h1, v, h4, h8, h5, h6⟩
  · rintro ⟨i, h1, v, h2, h3, h4, h5⟩
    have hi := (List.getElem?_eq_some_iff.1 h2).1
    obtain ⟨_, hw⟩ : ∃ ws, W[i]? = some ws := ⟨_, List.getElem?_eq_getElem (by rw [h.1]; exact hi)⟩
    exact ⟨i, _, i, v, h1, hw, (h.2 i _ hw i j).2 ⟨rfl, v, h2, h3⟩, h2, h4, h5⟩
theorem BackW.meets (h : BackW p W) (hp : Within p) {last : List (Nat × Nat)} {f : Nat} : (j, f) ∈ meets p W r last ↔ ∃ i, (i, f) ∈ last ∧ EdgeC p r j i := by
  rw [mem_meets]
  constructor
  · rintro ⟨i, ws, b, v, h1, h2, h3, h4, h5, h6⟩
    obtain ⟨rfl, v', h7, h8⟩ := (h.2 i ws h2 b j).1 h3
    rw [h4] at h7; injection h7 with h7; subst h7
    exact ⟨_, h1, v, h4, h8, h5, h6⟩
  · rintro ⟨i, h1, v, h2, h3, h4, h5⟩
    have hi := hp.2 j v h2 i h3
    obtain ⟨_, hw⟩ : ∃ ws, W[i]? = some ws := ⟨_, List.getElem?_eq_getElem (by rw [h.1]; exact hi)⟩
    exact ⟨i, _, j, v, h1, hw, (h.2 i _ hw j j).2 ⟨rfl, v, h2, h3⟩, h2, h4, h5⟩
end
def FirstIs (p : List InstL) (rs : List Int) (lo hi : Nat) : Option (Nat × Nat) → Prop
  | none => ∀ f e, lo ≤ f → f ≤ hi → ¬ Hits p rs f e
  | some (b, e) => lo ≤ b ∧ b ≤ hi ∧ Long p rs b (some e) ∧ ∀ f e, lo ≤ f → f < b → ¬ Hits p rs f e
def BestB (p : List InstL) (rs : List Int) (lo hi k : Nat) : Option (Nat × Nat) → Prop
  | none => ∀ f e, lo ≤ f → f ≤ hi → e < k → ¬ Hits p rs f e
  | some (b, e) => lo ≤ b ∧ b ≤ hi ∧ e < k ∧ Hits p rs b e ∧ ∀ f e', lo ≤ f → f ≤ hi → e' < k → Hits p rs f e' → b < f ∨ (b = f ∧ e' ≤ e)
structure Fwd (p : List InstL) (rs : List Int) (lo hi k K : Nat) (here : List (Nat × Nat)) (best : Option (Nat × Nat)) : Prop where
  sorted : here.Pairwise fun x y => x.2 ≤ y.2
  nodup : (here.map Prod.fst).Nodup
  sound : ∀ j f, (j, f) ∈ here → lo ≤ f ∧ f ≤ hi ∧ Rch p rs 0 f j k
  compl : ∀ f j, lo ≤ f → f ≤ hi → Rch p rs 0 f j k → (∀ b e, best = some (b, e) → f ≤ b) → ∃ f', f' ≤ f ∧ (j, f') ∈ here
  bst : BestB p rs lo hi K best
section
variable {p : List InstL} {rs : List Int} {W : List (List (Nat × Nat))} {lo hi k : Nat} {here h : List (Nat × Nat)} {best : Option (Nat × Nat)}
theorem Hits.le {a b : Nat} (h : Hits p rs a b) : a ≤ b := by obtain ⟨i, h, _⟩ := h; exact h.le
theorem Hits.lt {a b : Nat} (h : Hits p rs a b) (ha : a ≤ rs.length) : b ≤ rs.length := by obtain ⟨i, h, _⟩ := h; exact h.lt ha
theorem Fwd.begin (hW : Onward p W) (hlo : lo ≤ hi) (hs : Steps (WE p W rs.length lo) [(0, lo)] h) : Fwd p rs lo hi lo lo h none := by
  have hE : ∀ a b, WE p W rs.length lo a b ↔ EdgeE p rs.length lo a b := fun a b => hW.we
  refine ⟨hs.sorted (R := (· ≤ ·)) (by simp) Nat.le_refl, hs.nodup, fun j f hm => ?_, fun f j h1 h2 h3 _ => ?_, fun f e h1 h2 h3 h4 => by have := h4.le; omega⟩
  · obtain ⟨i, h1, h2⟩ := hs.sound j f hm
    simp at h1
    obtain ⟨rfl, rfl⟩ := h1
    exact ⟨Nat.le_refl _, hlo, Rch.star (h2.mono fun a b => (hE a b).1)⟩
  · have hle := h3.le
    obtain rfl : f = lo := by omega
    rcases h3.back with ⟨_, h4⟩ | ⟨b', r, u, v, h4, h5, _⟩
    · obtain ⟨f', h5, h6⟩ := hs.star (R := (· ≤ ·)) (by simp) Nat.le_refl (fun _ _ _ => Nat.le_trans) (List.mem_singleton.2 rfl) (h4.mono fun a b => (hE a b).2)
      exact ⟨f', h6, h5⟩
    · have := h5.le; omega
theorem BestB.next (hb : BestB p rs lo hi k best) (hno : ∀ f, lo ≤ f → f ≤ hi → (∀ b e, best = some (b, e) → f ≤ b) → ¬ Hits p rs f k) : BestB p rs lo hi (k + 1) best := by
  match best, hb, hno with
  | none, hb, hno =>
    intro f e h1 h2 h3 h4
    rcases Nat.lt_or_ge e k with h5 | h5
    · exact hb f e h1 h2 h5 h4
    · obtain rfl : e = k := by omega
      exact hno f h1 h2 (fun _ _ h => by cases h) h4
  | some (b, e), hb, hno =>
    obtain ⟨h1, h2, h3, h4, h5⟩ := hb
    refine ⟨h1, h2, by omega, h4, fun f e' g1 g2 g3 g4 => ?_⟩
    rcases Nat.lt_or_ge e' k with g5 | g5
    · exact h5 f e' g1 g2 g5 g4
    · obtain rfl : e' = k := by omega
      rcases Nat.lt_or_ge b f with g6 | g6
      · exact .inl g6
      · exact absurd g4 (hno f g1 g2 (fun b' _ h => by injection h with h; injection h with h _; omega))
theorem Fwd.none_ (F : Fwd p rs lo hi k k here best) (hno : ∀ j f, (j, f) ∈ here → ¬ IsEnd p j) : Fwd p rs lo hi k (k + 1) here best :=
  ⟨F.sorted, F.nodup, F.sound, F.compl, F.bst.next fun f h1 h2 h3 ⟨i, h4, h5⟩ => by
    obtain ⟨f', _, h6⟩ := F.compl f i h1 h2 h4 h3
    exact hno i f' h6 h5⟩
theorem Fwd.some_ (F : Fwd p rs lo hi k k here best) (hin : ∀ b e, best = some (b, e) → ∀ j f, (j, f) ∈ here → f ≤ b) {A Z : List (Nat × Nat)} {j b : Nat} (he : here = A ++ (j, b) :: Z) (hA : ∀ i f, (i, f) ∈ A → ¬ IsEnd p i) (hj : IsEnd p j) :
    Fwd p rs lo hi k (k + 1) (here.filter fun x => decide (x.2 ≤ b)) (some (b, k)) := by
  have hm : (j, b) ∈ here := by rw [he]; simp
  obtain ⟨h1, h2, h3⟩ := F.sound j b hm
  have hmin : ∀ i f, (i, f) ∈ here → IsEnd p i → b ≤ f := by
    intro i f hi hend
    rw [he] at hi
    rcases List.mem_append.1 hi with hi | hi
    · exact absurd hend (hA i f hi)
    · rcases List.mem_cons.1 hi with hi | hi
      · injection hi with _ hi; omega
      · have := F.sorted
        rw [he, List.pairwise_append] at this
        exact (List.pairwise_cons.1 this.2.1).1 (i, f) hi
  refine ⟨F.sorted.filter _, (List.Sublist.map _ List.filter_sublist).nodup F.nodup, fun j f hm => F.sound j f (List.mem_filter.1 hm).1, fun f j g1 g2 g3 g4 => ?_, h1, h2, by omega, ⟨j, h3, hj⟩, fun f e' g1 g2 g3 g4 => ?_⟩
  · have hfb := g4 b k rfl
    obtain ⟨f', g5, g6⟩ := F.compl f j g1 g2 g3 (fun b' e h => by have := hin b' e h _ _ hm; omega)
    exact ⟨f', g5, List.mem_filter.2 ⟨g6, by simp; omega⟩⟩
  · rcases Nat.lt_or_ge b f with g5 | g5
    · exact .inl g5
    rcases Nat.lt_or_ge e' k with g6 | g6
    · cases best with
      | none => exact absurd g4 (F.bst f e' g1 g2 g6)
      | some x =>
        obtain ⟨b0, e0⟩ := x
        have hb0 := hin b0 e0 rfl _ _ hm
        obtain ⟨_, _, _, g8, g7⟩ := F.bst
        have g10 := g7 f e' g1 g2 g6 g4
        by_cases hb : b = f
        · exact .inr ⟨hb, by omega⟩
        · rcases g10 with g10 | ⟨g10, _⟩ <;> omega
    · obtain rfl : e' = k := by omega
      obtain ⟨i, g7, g8⟩ := g4
      obtain ⟨f', g9, g10⟩ := F.compl f i g1 g2 g7 (fun b' e h => by have := hin b' e h _ _ hm; omega)
      have := hmin i f' g10 g8
      exact .inr ⟨by omega, Nat.le_refl _⟩
theorem Fwd.step (hW : Onward p W) {r : Int} (hr : rs[k]? = some r) (F : Fwd p rs lo hi k (k + 1) here best) (hin : ∀ b e, best = some (b, e) → ∀ j f, (j, f) ∈ here → f ≤ b) {extra : List (Nat × Nat)} (hx : extra = if k + 1 ≤ hi ∧ best = none ∧ lo ≤ k + 1 then [(0, k + 1)] else [])
    (hs : Steps (WE p W rs.length (k + 1)) (meets p W r here ++ extra) h) : Fwd p rs lo hi (k + 1) (k + 1) h best ∧ ∀ b e, best = some (b, e) → ∀ j f, (j, f) ∈ h → f ≤ b := by
  have hE : ∀ a b, WE p W rs.length (k + 1) a b ↔ EdgeE p rs.length (k + 1) a b := fun a b => hW.we
  have htodo : ∀ i f, (i, f) ∈ meets p W r here ++ extra → lo ≤ f ∧ f ≤ hi ∧ Rch p rs 0 f i (k + 1) ∧ ((∃ j, (j, f) ∈ here) ∨ best = none) := by
    intro i f hm
    rcases List.mem_append.1 hm with hm | hm
    · obtain ⟨j, h1, h2⟩ := hW.meets.1 hm
      obtain ⟨h3, h4, h5⟩ := F.sound j f h1
      exact ⟨h3, h4, .chr h5 hr h2, .inl ⟨j, h1⟩⟩
    · rw [hx] at hm
      split at hm
      · rename_i hc
        simp at hm
        obtain ⟨rfl, rfl⟩ := hm
        exact ⟨hc.2.2, hc.1, .refl, .inr hc.2.1⟩
      · simp at hm
  have hsort : (meets p W r here ++ extra).Pairwise fun x y => x.2 ≤ y.2 := by
    rw [List.pairwise_append]
    refine ⟨meets_sorted (R := (· ≤ ·)) F.sorted Nat.le_refl, ?_, fun x hx' y hy => ?_⟩
    · rw [hx]; split <;> simp
    · rw [hx] at hy
      split at hy
      · simp at hy; subst hy
        have h0 := htodo x.1 x.2 (List.mem_append_left _ hx')
        exact h0.2.2.1.le
      · simp at hy
  refine ⟨⟨hs.sorted (R := (· ≤ ·)) hsort Nat.le_refl, hs.nodup, fun j f hm => ?_, fun f j h1 h2 h3 h4 => ?_, ?_⟩, fun b e hb j f hm => ?_⟩
  · obtain ⟨i, h1, h2⟩ := hs.sound j f hm
    obtain ⟨h3, h4, h5, _⟩ := htodo i f h1
    exact ⟨h3, h4, h5.trans (Rch.star (h2.mono fun a b => (hE a b).1))⟩
  · rcases h3.back with ⟨h5, h6⟩ | ⟨b', r', u, v, h5, h6, h7, h8, h9⟩
    · have hbn : best = none := by
        cases hbe : best with
        | none => rfl
        | some x =>
          obtain ⟨b, e⟩ := x
          have g1 := h4 b e hbe
          have g2 := F.bst
          rw [hbe] at g2
          obtain ⟨_, _, g3, g4, _⟩ := g2
          have := g4.le
          omega
      have hmem : (0, f) ∈ meets p W r here ++ extra := by
        rw [hx, if_pos ⟨by omega, hbn, by omega⟩, h5]
        exact List.mem_append_right _ (List.mem_singleton.2 rfl)
      obtain ⟨f', g1, g2⟩ := hs.star (R := (· ≤ ·)) hsort Nat.le_refl (fun _ _ _ => Nat.le_trans) hmem (h6.mono fun a b => (hE a b).2)
      exact ⟨f', g2, g1⟩
    · obtain rfl : b' = k := by omega
      rw [hr] at h7; injection h7 with h7; subst h7
      obtain ⟨f1, g1, g2⟩ := F.compl f u h1 h2 h6 h4
      have hmem : (v, f1) ∈ meets p W r here ++ extra := List.mem_append_left _ (hW.meets.2 ⟨u, g2, h8⟩)
      obtain ⟨f', g3, g4⟩ := hs.star (R := (· ≤ ·)) hsort Nat.le_refl (fun _ _ _ => Nat.le_trans) hmem (h9.mono fun a b => (hE a b).2)
      exact ⟨f', Nat.le_trans g4 g1, g3⟩
  · exact F.bst
  · obtain ⟨i, h1, h2⟩ := hs.sound j f hm
    obtain ⟨_, _, _, h6⟩ := htodo i f h1
    rcases h6 with ⟨j', h6⟩ | h6
    · exact hin b e hb j' f h6
    · rw [h6] at hb; cases hb
theorem Fwd.over (F : Fwd p rs lo hi k (k + 1) here best) (hhi : hi ≤ rs.length) (ho : k = rs.length ∨ here = [] ∧ (best ≠ none ∨ hi ≤ k)) : FirstIs p rs lo hi best := by
  have late : ∀ f e, lo ≤ f → f ≤ hi → Hits p rs f e → (∀ b e', best = some (b, e') → f ≤ b) → e ≤ k := by
    intro f e h1 h2 h3 h4
    rcases ho with ho | ⟨ho, ho2⟩
    · have := h3.lt (by omega); omega
    · rcases Nat.lt_or_ge k e with h5 | h5
      · exfalso
        have hfk : f ≤ k := by
          rcases ho2 with h6 | h6
          · cases hb : best with
            | none => exact absurd hb h6
            | some x =>
              obtain ⟨b, e'⟩ := x
              have g1 := h4 b e' hb
              have g2 := F.bst
              rw [hb] at g2
              have := g2.2.2.2.1.le
              have := g2.2.2.1
              omega
          · omega
        obtain ⟨i, h6, _⟩ := h3
        obtain ⟨u, h7, _⟩ := h6.mid hfk (by omega)
        obtain ⟨f', _, h8⟩ := F.compl f u h1 h2 h7 h4
        rw [ho] at h8
        simp at h8
      · exact h5
  cases hb : best with
  | none =>
    intro f e h1 h2 h3
    have := F.bst
    rw [hb] at this
    exact this f e h1 h2 (by have := late f e h1 h2 h3 (fun _ _ h => by rw [hb] at h; cases h); omega) h3
  | some x =>
    obtain ⟨b, e⟩ := x
    have g := F.bst
    rw [hb] at g
    obtain ⟨g1, g2, g3, g4, g5⟩ := g
    refine ⟨g1, g2, ⟨g4, fun b' h => ?_⟩, fun f e' h1 h2 h => ?_⟩
    · have hl := late b b' g1 g2 h (fun b2 _ h => by rw [hb] at h; injection h with h; injection h with h _; omega)
      rcases g5 b b' g1 g2 (by omega) h with h6 | ⟨_, h6⟩ <;> omega
    · have hl := late f e' h1 (by omega) h (fun b2 _ h => by rw [hb] at h; injection h with h; injection h with h _; omega)
      rcases g5 f e' h1 (by omega) (by omega) h with h6 | ⟨h6, _⟩ <;> omega
structure Bwd (p : List InstL) (rs : List Int) (k : Nat) (here : List (Nat × Nat)) : Prop where
  sorted : here.Pairwise fun x y => y.2 ≤ x.2
  nodup : (here.map Prod.fst).Nodup
  sound : ∀ j f, (j, f) ∈ here → ∃ i, Rch p rs j k i f ∧ IsEnd p i
  compl : ∀ j i f, Rch p rs j k i f → IsEnd p i → ∃ f', f ≤ f' ∧ (j, f') ∈ here
theorem Bwd.step (hW : BackW p W) (hp : Within p) {todo ends : List (Nat × Nat)} (hk : k ≤ rs.length)
    (hF : k = rs.length ∧ todo = [] ∨ ∃ r, rs[k]? = some r ∧ todo = meets p W r here ∧ Bwd p rs (k + 1) here)
    (he : ∀ i f, (i, f) ∈ ends ↔ f = k ∧ IsEnd p i)
    (hs : Steps (WE p W rs.length k) (todo ++ ends) h) : Bwd p rs k h := by
  have hE : ∀ a b, WE p W rs.length k a b ↔ EdgeE p rs.length k b a := fun a b => hW.we hp
  have htodo : ∀ i f, (i, f) ∈ todo ++ ends → k ≤ f ∧ ∃ i', Rch p rs i k i' f ∧ IsEnd p i' := by
    intro i f hm
    rcases List.mem_append.1 hm with hm | hm
    · rcases hF with ⟨_, hF⟩ | ⟨r, hr, hF, F⟩
      · rw [hF] at hm; simp at hm
      · rw [hF] at hm
        obtain ⟨j, h1, h2⟩ := (hW.meets hp).1 hm
        obtain ⟨i', h3, h4⟩ := F.sound j f h1
        have := h3.le
        exact ⟨by omega, i', Rch.trans (Rch.chr .refl hr h2) h3, h4⟩
    · obtain ⟨rfl, h1⟩ := (he i f).1 hm
      exact ⟨Nat.le_refl _, i, .refl, h1⟩
  have hsort : (todo ++ ends).Pairwise fun x y => y.2 ≤ x.2 := by
    rw [List.pairwise_append]
    refine ⟨?_, ?_, fun x hx y hy => ?_⟩
    · rcases hF with ⟨_, hF⟩ | ⟨r, hr, hF, F⟩
      · rw [hF]; exact .nil
      · rw [hF]; exact meets_sorted (R := fun a b => b ≤ a) F.sorted Nat.le_refl
    · rw [List.pairwise_iff_getElem]
      intro i j hi hj _
      have h1 := ((he ends[i].1 ends[i].2).1 (List.getElem_mem hi)).1
      have h2 := ((he ends[j].1 ends[j].2).1 (List.getElem_mem hj)).1
      omega
    · have h1 := ((he y.1 y.2).1 hy).1
      have h2 := (htodo x.1 x.2 (List.mem_append_left _ hx)).1
      omega
  have hst : ∀ {i j f : Nat}, (i, f) ∈ todo ++ ends → Star (EdgeE p rs.length k) j i → ∃ f', (j, f') ∈ h ∧ f ≤ f' := fun hm hst =>
    hs.star (R := fun a b => b ≤ a) hsort Nat.le_refl (fun _ _ _ a b => Nat.le_trans b a) hm (hst.swap fun a b => (hE b a).2)
  refine ⟨hs.sorted (R := fun a b => b ≤ a) hsort Nat.le_refl, hs.nodup, fun j f hm => ?_, fun j i f h1 h2 => ?_⟩
  · obtain ⟨i, h1, h2⟩ := hs.sound j f hm
    obtain ⟨_, i', h3, h4⟩ := htodo i f h1
    exact ⟨i', (Rch.star (h2.swap fun a b => (hE a b).1)).trans h3, h4⟩
  · rcases h1.front with ⟨h3, h4⟩ | ⟨r, u, v, h3, h4, h5, h6⟩
    · subst h3
      obtain ⟨f', g1, g2⟩ := hst (List.mem_append_right _ ((he i k).2 ⟨rfl, h2⟩)) h4
      exact ⟨f', g2, g1⟩
    · rcases hF with ⟨hF, _⟩ | ⟨r', hr, hF, F⟩
      · have := (List.getElem?_eq_some_iff.1 h4).1; omega
      · rw [hr] at h4; injection h4 with h4; subst h4
        obtain ⟨f1, g1, g2⟩ := F.compl v i f h6 h2
        obtain ⟨f', g3, g4⟩ := hst (List.mem_append_left _ (by rw [hF]; exact (hW.meets hp).2 ⟨v, g2, h5⟩)) h3
        exact ⟨f', by omega, g3⟩
theorem Bwd.none_ (F : Bwd p rs k here) (h0 : ∀ f, (0, f) ∉ here) : Long p rs k none := fun b ⟨i, h1, h2⟩ => by
  obtain ⟨f', _, h3⟩ := F.compl 0 i b h1 h2
  exact h0 f' h3
theorem Bwd.some_ (F : Bwd p rs k here) {f : Nat} (h0 : (0, f) ∈ here) : Long p rs k (some f) := by
  obtain ⟨i, h1, h2⟩ := F.sound 0 f h0
  refine ⟨⟨i, h1, h2⟩, fun b' ⟨i', h3, h4⟩ => ?_⟩
  obtain ⟨f', h5, h6⟩ := F.compl 0 i' b' h3 h4
  have : f' = f := by
    have hn := F.nodup
    obtain ⟨a, ha, ea⟩ := List.getElem_of_mem h6
    obtain ⟨b, hb, eb⟩ := List.getElem_of_mem h0
    have hab : a = b := by
      have hna := List.nodup_iff_pairwise_ne.1 hn
      rw [List.pairwise_iff_getElem] at hna
      rcases Nat.lt_trichotomy a b with hlt | heq | hlt
      · have := hna a b (by simpa using ha) (by simpa using hb) hlt
        simp [ea, eb] at this
      · exact heq
      · have := hna b a (by simpa using hb) (by simpa using ha) hlt
        simp [ea, eb] at this
    subst hab
    rw [ea] at eb
    injection eb
  omega
end
inductive AllR (p : List InstL) (rs : List Int) : Nat → Option Nat → List (Nat × Nat) → Prop
  | stop {k b} : rs.length < k → AllR p rs k b []
  | skip {k b l} : k ≤ rs.length → (Long p rs k none ∨ Long p rs k (some k) ∧ b = some k) → AllR p rs (k + 1) b l → AllR p rs k b l
  | take {k b e l} : k ≤ rs.length → Long p rs k (some e) → ¬ (e = k ∧ b = some k) → AllR p rs e (some e) l → AllR p rs k b ((k, e) :: l)
theorem AllR.uniq {p : List InstL} {rs : List Int} {k : Nat} {b : Option Nat} {l l' : List (Nat × Nat)} (h : AllR p rs k b l) (h' : AllR p rs k b l') : l = l' := by
  induction h generalizing l' with
  | stop hk => cases h' with
    | stop => rfl
    | skip h => omega
    | take h => omega
  | skip hk hc _ ih => cases h' with
    | stop => omega
    | skip _ _ h => exact ih h
    | take _ h1 h2 _ =>
      rcases hc with hc | ⟨hc, hb⟩
      · cases hc.uniq h1
      · have := hc.uniq h1; injection this with this; exact absurd ⟨this.symm, hb⟩ h2
  | take hk h1 h2 _ ih => cases h' with
    | stop => omega
    | skip _ hc _ =>
      rcases hc with hc | ⟨hc, hb⟩
      · cases hc.uniq h1
      · have := hc.uniq h1; injection this with this; exact absurd ⟨this.symm, hb⟩ h2
    | take _ h3 _ h4 =>
      have := h1.uniq h3; injection this with this; subst this
      rw [ih h4]
end Go.Proofs.YtaapbmdojkjphaaGreat
namespace Go.Proofs.YtaapbmdojkjphaaGreat
open Go Go.RowKit
set_option linter.unusedVariables false
set_option maxRecDepth 20000
def Fs (B s b : Nat) : Prop := b < B ∧ b ≠ s
def InsF (F : Nat → Prop) (w : World) (A : Option Addr) (n : Nat) (l : List IV) : Prop :=
  l.length = n ∧ (0 < n → ∃ b o, A = some ⟨b, o, none⟩ ∧ F b ∧ b < w.heap.size ∧ ∀ j v, l[j]? = some v → ∀ k u, v.cells[k]? = some u → w.cell? ⟨b, o + j * 4 + k, none⟩ = some u) ∧ ∀ v ∈ l, RowF F w v.A v.n v.i.set ∧ v.n ≤ 2000000
def RowW (F : Nat → Prop) (w : World) (A : Option Addr) (n : Nat) (ws : List (Nat × Nat)) : Prop :=
  (ws.length = n ∧ n ≤ 1000000) ∧ (0 < n → ∃ b o, A = some ⟨b, o, none⟩ ∧ F b ∧ b < w.heap.size ∧ ∀ j x, ws[j]? = some x → w.cell? ⟨b, o + j * 2, none⟩ = some (.int .i64 (x.1 : Int)) ∧ w.cell? ⟨b, o + j * 2 + 1, none⟩ = some (.int .i64 (x.2 : Int)))
def WaysF (F : Nat → Prop) (w : World) (A : Option Addr) (n : Nat) (W : List (List (Nat × Nat))) : Prop :=
  W.length = n ∧ (0 < n → ∃ b o, A = some ⟨b, o, none⟩ ∧ F b ∧ b < w.heap.size ∧ ∀ j ws, W[j]? = some ws → ∃ Aj nj cj, w.cell? ⟨b, o + j, none⟩ = some (.slice Aj nj cj) ∧ RowW F w Aj nj ws)
section
variable {F F' : Nat → Prop} {w w' : World} {A : Option Addr} {n : Nat} {l : List IV} {W : List (List (Nat × Nat))} {ws : List (Nat × Nat)}
theorem InsF.keep (h : InsF F w A n l) (hs : w.heap.size ≤ w'.heap.size) (hk : ∀ b, F b → b < w.heap.size → w'.heap[b]? = w.heap[b]?) : InsF F w' A n l := by
  refine ⟨h.1, fun hn => ?_, fun v hv => ⟨(h.2.2 v hv).1.keep hs hk, (h.2.2 v hv).2⟩⟩
  obtain ⟨b, o, hA, hF, hlt, hc⟩ := h.2.1 hn
  have hh := hk b hF hlt
  have hcell : ∀ j, w'.cell? ⟨b, j, none⟩ = w.cell? ⟨b, j, none⟩ := fun j => by simp only [World.cell?, hh]
  exact ⟨b, o, hA, hF, by omega, fun j v hv k u hu => by rw [hcell]; exact hc j v hv k u hu⟩
theorem RowW.keep (h : RowW F w A n ws) (hs : w.heap.size ≤ w'.heap.size) (hk : ∀ b, F b → b < w.heap.size → w'.heap[b]? = w.heap[b]?) : RowW F w' A n ws := by
  refine ⟨h.1, fun hn => ?_⟩
  obtain ⟨b, o, hA, hF, hlt, hc⟩ := h.2 hn
  have hh := hk b hF hlt
  have hcell : ∀ j, w'.cell? ⟨b, j, none⟩ = w.cell? ⟨b, j, none⟩ := fun j => by simp only [World.cell?, hh]
  exact ⟨b, o, hA, hF, by omega, fun j x hx => by rw [hcell, hcell]; exact hc j x hx⟩
theorem WaysF.keep (h : WaysF F w A n W) (hs : w.heap.size ≤ w'.heap.size) (hk : ∀ b, F b → b < w.heap.size → w'.heap[b]? = w.heap[b]?) : WaysF F w' A n W := by
  refine ⟨h.1, fun hn => ?_⟩
  obtain ⟨b, o, hA, hF, hlt, hc⟩ := h.2 hn
  have hh := hk b hF hlt
  have hcell : ∀ j, w'.cell? ⟨b, j, none⟩ = w.cell? ⟨b, j, none⟩ := fun j => by simp only [World.cell?, hh]
  refine ⟨b, o, hA, hF, by omega, fun j ws hj => ?_⟩
  obtain ⟨Aj, nj, cj, h1, h2⟩ := hc j ws hj
  exact ⟨Aj, nj, cj, by rw [hcell]; exact h1, h2.keep hs hk⟩
theorem InsF.belowB {B : Nat} (h : InsF (fun b => b < B) w A n l) (hb : Below B w w') : InsF (fun b => b < B) w' A n l := h.keep hb.size fun b hF _ => hb.block b hF
theorem InsF.below {B s : Nat} (h : InsF (Fs B s) w A n l) (hb : Below B w w') : InsF (Fs B s) w' A n l := h.keep hb.size fun b hF _ => hb.block b hF.1
theorem WaysF.below {B s : Nat} (h : WaysF (Fs B s) w A n W) (hb : Below B w w') : WaysF (Fs B s) w' A n W := h.keep hb.size fun b hF _ => hb.block b hF.1
theorem InsF.mono (h : InsF F w A n l) (hf : ∀ b, F b → b < w.heap.size → F' b) : InsF F' w A n l := by
  refine ⟨h.1, fun hn => ?_, fun v hv => ⟨⟨(h.2.2 v hv).1.1, fun b o hn hA => ?_⟩, (h.2.2 v hv).2⟩⟩
  · obtain ⟨b, o, hA, hF, hlt, hc⟩ := h.2.1 hn
    exact ⟨b, o, hA, hf b hF hlt, hlt, hc⟩
  · obtain ⟨b', o', hA', hlt, _⟩ := (h.2.2 v hv).1.1.2 hn
    have hF := (h.2.2 v hv).1.2 b o hn hA
    rw [hA] at hA'
    injection hA' with hA'
    injection hA' with e _
    subst e
    exact hf _ hF hlt
theorem InsF.insAt (h : InsF F w A n l) : InsAt w A n l := ⟨h.1, fun hn => by
  obtain ⟨b, o, hA, _, hlt, hc⟩ := h.2.1 hn
  exact ⟨b, o, hA, hlt, hc⟩⟩
theorem InsF.one (h : InsF F w A n l) {j : Nat} {v : IV} (hv : l[j]? = some v) : ∃ b o, A = some ⟨b, o, none⟩ ∧ F b ∧ b < w.heap.size ∧ j < n ∧ w.cell? ⟨b, o + j * 4, none⟩ = some (.int .i64 v.i.op) ∧ w.cell? ⟨b, o + j * 4 + 1, none⟩ = some (.slice v.A v.n v.c) ∧ w.cell? ⟨b, o + j * 4 + 2, none⟩ = some (.int .i64 v.i.x) ∧ w.cell? ⟨b, o + j * 4 + 3, none⟩ = some (.int .i64 v.i.y) := by
  have hj := (List.getElem?_eq_some_iff.1 hv).1
  obtain ⟨b, o, hA, hF, hlt, hc⟩ := h.2.1 (by have := h.1; omega)
  exact ⟨b, o, hA, hF, hlt, by have := h.1; omega, hc j v hv 0 _ rfl, hc j v hv 1 _ rfl, hc j v hv 2 _ rfl, hc j v hv 3 _ rfl⟩
end
def cellsS (xs : List (Nat × Nat)) : List Value := xs.flatMap fun p => [Value.int .i64 (p.1 : Int), .int .i64 (p.2 : Int)]
theorem cellsS_length (xs : List (Nat × Nat)) : (cellsS xs).length = xs.length * 2 := by
  induction xs with
  | nil => rfl
  | cons p s ih =>
    show ([Value.int .i64 (p.1 : Int), .int .i64 (p.2 : Int)] ++ cellsS s).length = _
    rw [List.length_append, ih]
    simp only [List.length_cons, List.length_nil]
    omega
theorem cellsS_append (a b : List (Nat × Nat)) : cellsS (a ++ b) = cellsS a ++ cellsS b := by simp [cellsS]
theorem cellsS_at : ∀ (xs : List (Nat × Nat)) (j : Nat) (x : Nat × Nat), xs[j]? = some x → (cellsS xs)[j * 2]? = some (.int .i64 (x.1 : Int)) ∧ (cellsS xs)[j * 2 + 1]? = some (.int .i64 (x.2 : Int))
  | [], j, x, h => by simp at h
  | p :: s, 0, x, h => by
    simp only [List.getElem?_cons_zero, Option.some.injEq] at h
    subst h
    exact ⟨rfl, rfl⟩
  | p :: s, j + 1, x, h => by
    have ih := cellsS_at s j x (by simpa using h)
    show ([Value.int .i64 (p.1 : Int), .int .i64 (p.2 : Int)] ++ cellsS s)[(j + 1) * 2]? = _ ∧ ([Value.int .i64 (p.1 : Int), .int .i64 (p.2 : Int)] ++ cellsS s)[(j + 1) * 2 + 1]? = _
    rw [List.getElem?_append_right (by show 2 ≤ _; omega), List.getElem?_append_right (by show 2 ≤ _; omega)]
    rw [show (j + 1) * 2 - [Value.int .i64 (p.1 : Int), .int .i64 (p.2 : Int)].length = j * 2 by show _ - 2 = _; omega, show (j + 1) * 2 + 1 - [Value.int .i64 (p.1 : Int), .int .i64 (p.2 : Int)].length = j * 2 + 1 by show _ - 2 = _; omega]
    exact ih
theorem info_spot : (Tryz.prog.info? 155).map (fun i => (i.zero, i.size, i.bytes)) = some (some (.agg #[.int .i64 0, .int .i64 0]), 2, 16) := by kernel_rfl
theorem spot_at {w : World} {B : Nat} {H : Option Addr} {n c : Nat} {xs : List (Nat × Nat)} (h : w.ownsRow B 155 2 (.slice H n c) n (cellsS xs)) {j : Nat} {x : Nat × Nat} (hx : xs[j]? = some x) : ∃ b, H = some ⟨b, 0, none⟩ ∧ j < n ∧ B ≤ b ∧ b < w.heap.size ∧ w.cell? ⟨b, j * 2, none⟩ = some (.int .i64 (x.1 : Int)) ∧ w.cell? ⟨b, j * 2 + 1, none⟩ = some (.int .i64 (x.2 : Int)) ∧ (∃ cs, w.heap[b]? = some (.cells cs 155 (0, 0))) := by
  have hj := (List.getElem?_eq_some_iff.1 hx).1
  have hl := h.1
  rw [cellsS_length] at hl
  rcases h.2 with ⟨e, h0⟩ | ⟨b, cap, cur, e, hB, hb, hnc, hcm, hcs, ht⟩
  · omega
  · injection e with e1 _ e3
    subst e1; subst e3
    obtain ⟨k1, k2⟩ := cellsS_at xs j x hx
    refine ⟨b, rfl, by omega, hB, (Array.getElem?_eq_some_iff.1 hb).1, ?_, ?_, cur, hb⟩
    · rw [cell_of_row w b (j * 2) cur 155 (0, 0) hb, ← k1, ← ht, List.getElem?_take_of_lt (by omega), Array.getElem?_toList]
    · rw [cell_of_row w b (j * 2 + 1) cur 155 (0, 0) hb, ← k2, ← ht, List.getElem?_take_of_lt (by omega), Array.getElem?_toList]
theorem own_len {w : World} {B : Nat} {H : Option Addr} {n c : Nat} {xs : List (Nat × Nat)} (h : w.ownsRow B 155 2 (.slice H n c) n (cellsS xs)) : xs.length = n := by have := h.1; rw [cellsS_length] at this; omega
def Owned (g : Nat) (w : World) (k : Nat) : Prop := ∃ v : Value, (w.cell? ⟨g, 4, none⟩ = some v ∨ w.cell? ⟨g, 5, none⟩ = some v) ∧ v.ownBlock = some k
def Tch (B g mb : Nat) (w w' : World) : Prop := Below B w w' ∧ ∀ k o, w.heap[k]? = some o → k ≠ g → k ≠ mb → ¬ Owned g w k → w'.heap[k]? = some o ∧ ¬ Owned g w' k
section
variable {B g mb : Nat} {w w' w'' : World}
theorem Tch.refl (B g mb : Nat) (w : World) : Tch B g mb w w := ⟨Below.refl _ _, fun _ _ h _ _ h2 => ⟨h, h2⟩⟩
theorem Tch.trans (h : Tch B g mb w w') (k : Tch B g mb w' w'') : Tch B g mb w w'' := ⟨h.1.trans k.1, fun i o h1 h2 h3 h4 => by
  obtain ⟨k1, k2⟩ := h.2 i o h1 h2 h3 h4
  exact k.2 i o k1 h2 h3 k2⟩
theorem Tch.drew (h : Tch B g mb w w') : Tch B g mb w w'.drew := ⟨h.1.drew, h.2⟩
theorem Tch.drewN (h : Tch B g mb w w') (q : Nat) : Tch B g mb w (w'.drewN q) := ⟨below_drewN h.1 q, h.2⟩
theorem Tch.of_below (h : Below w.heap.size w w') (hB : B ≤ w.heap.size) (hg : g < w.heap.size) : Tch B g mb w w' := ⟨h.mono hB, fun k o h1 _ _ h2 => ⟨(h.block k (Array.getElem?_eq_some_iff.1 h1).1).trans h1, fun ⟨v, hv, e⟩ => h2 ⟨v, by rwa [h.cell (p := ⟨g, 4, none⟩) hg, h.cell (p := ⟨g, 5, none⟩) hg] at hv, e⟩⟩⟩
end
structure WEnv where
  A : Option Addr
  n : Nat
  c : Nat
  l : List IV
  T : ByteArray
  WA : Option Addr
  wc : Nat
  W : List (List (Nat × Nat))
  mc : Nat
  skip : Nat
def WEnv.p (e : WEnv) : List InstL := e.l.map fun v => v.i
def walkV (e : WEnv) (at_ : Nat) (H : Option Addr) (hn hc : Nat) (L : Option Addr) (ln lc mb : Nat) : Array Value :=
  #[.slice e.A e.n e.c, .string e.T, .slice e.WA e.n e.wc, .int .i64 (at_ : Int), .slice H hn hc, .slice L ln lc, .slice (some ⟨mb, 0, none⟩) e.n e.mc]
structure WalkC (B g mb : Nat) (e : WEnv) (w : World) (at_ : Nat) (H : Option Addr) (hn hc : Nat) (here : List (Nat × Nat)) (L : Option Addr) (ln lc : Nat) (last : List (Nat × Nat)) (met : List Int) : Prop where
  hg : w.heap[g]? = some (.cells (walkV e at_ H hn hc L ln lc mb) 133 (0, 0))
  hm : w.heap[mb]? = some (.cells (met.map (Value.int .i64)).toArray 3 (0, 0))
  hml : met.length = e.n
  hB : B ≤ g
  hBm : B ≤ mb
  row : w.ownsRow B 155 2 (.slice H hn hc) hn (cellsS here)
  old : w.ownsRow B 155 2 (.slice L ln lc) ln (cellsS last)
  ne : ∀ b, (Value.slice H hn hc).ownBlock = some b → (Value.slice L ln lc).ownBlock ≠ some b
  ins : InsF (Fs B e.skip) w e.A e.n e.l
  ways : WaysF (Fs B e.skip) w e.WA e.n e.W
  win : WaysIn e.p e.W
  small : e.n ≤ 1000 ∧ e.T.size ≤ 1000 ∧ 0 < e.n
section
variable {B g mb : Nat} {e : WEnv} {w w' : World} {at_ : Nat} {H : Option Addr} {hn hc : Nat} {here : List (Nat × Nat)} {L : Option Addr} {ln lc : Nat} {last : List (Nat × Nat)} {met : List Int}
theorem WalkC.lt (h : WalkC B g mb e w at_ H hn hc here L ln lc last met) : g < w.heap.size ∧ mb < w.heap.size ∧ g ≠ mb := by
  refine ⟨(Array.getElem?_eq_some_iff.1 h.hg).1, (Array.getElem?_eq_some_iff.1 h.hm).1, ?_⟩
  rintro rfl
  have h1 := h.hg
  have h2 := h.hm
  rw [h1] at h2
  injection h2 with h2
  injection h2 with _ h2 _
  exact absurd h2 (by decide)
theorem WalkC.cells (h : WalkC B g mb e w at_ H hn hc here L ln lc last met) :
    w.cell? ⟨g, 0, none⟩ = some (.slice e.A e.n e.c) ∧ w.cell? ⟨g, 1, none⟩ = some (.string e.T) ∧ w.cell? ⟨g, 2, none⟩ = some (.slice e.WA e.n e.wc) ∧ w.cell? ⟨g, 3, none⟩ = some (.int .i64 (at_ : Int)) ∧ w.cell? ⟨g, 4, none⟩ = some (.slice H hn hc) ∧ w.cell? ⟨g, 5, none⟩ = some (.slice L ln lc) ∧ w.cell? ⟨g, 6, none⟩ = some (.slice (some ⟨mb, 0, none⟩) e.n e.mc) ∧ ∀ j, w.frozen? ⟨g, j, none⟩ = false :=
  ⟨cell_of_row _ g 0 _ _ (0, 0) h.hg, cell_of_row _ g 1 _ _ (0, 0) h.hg, cell_of_row _ g 2 _ _ (0, 0) h.hg, cell_of_row _ g 3 _ _ (0, 0) h.hg, cell_of_row _ g 4 _ _ (0, 0) h.hg, cell_of_row _ g 5 _ _ (0, 0) h.hg, cell_of_row _ g 6 _ _ (0, 0) h.hg, fun j => by simp [World.frozen?, h.hg]⟩
theorem WalkC.met_at (h : WalkC B g mb e w at_ H hn hc here L ln lc last met) {i : Nat} (hi : i < e.n) : w.cell? ⟨mb, i, none⟩ = some (.int .i64 (met.getD i 0)) ∧ ∀ j, w.frozen? ⟨mb, j, none⟩ = false := by
  have := h.hml
  refine ⟨?_, fun j => by simp [World.frozen?, h.hm]⟩
  rw [cell_of_row _ mb i _ _ (0, 0) h.hm]
  simp [List.getD, List.getElem?_eq_getElem (show i < met.length by omega)]
theorem WalkC.keep (h : WalkC B g mb e w at_ H hn hc here L ln lc last met) (hb : Below B w w') (hg : w'.heap[g]? = w.heap[g]?) (hm : w'.heap[mb]? = w.heap[mb]?) (hs : ∀ (k : Nat) (cs : Array Value) (f : Nat × Nat), w.heap[k]? = some (Obj.cells cs 155 f) → w'.heap[k]? = w.heap[k]?) : WalkC B g mb e w' at_ H hn hc here L ln lc last met := by
  have kp : ∀ {A : Option Addr} {n c : Nat} {xs : List Value}, w.ownsRow B 155 2 (.slice A n c) n xs → w'.ownsRow B 155 2 (.slice A n c) n xs := fun ho => row_keep ho fun k hk hv => by
    rcases ho.2 with ⟨e1, _⟩ | ⟨b, cap, cur, e1, _, hb', _⟩
    · rw [e1] at hv; cases hv
    · rw [e1] at hv; injection hv with hv; subst hv; exact hs b cur (0, 0) hb'
  exact ⟨hg.trans h.hg, hm.trans h.hm, h.hml, h.hB, h.hBm, kp h.row, kp h.old, h.ne, h.ins.below hb, h.ways.below hb, h.win, h.small⟩
theorem WalkC.skip (h : WalkC B g mb e w at_ H hn hc here L ln lc last met) (hsB : e.skip < B) (hsz : w.heap.size ≤ w'.heap.size) (hk : ∀ k, k < w.heap.size → k ≠ e.skip → w'.heap[k]? = w.heap[k]?) : WalkC B g mb e w' at_ H hn hc here L ln lc last met := by
  have hg := hk g h.lt.1 (by have := h.hB; omega)
  have hm := hk mb h.lt.2.1 (by have := h.hBm; omega)
  have kp : ∀ {A : Option Addr} {n c : Nat} {xs : List Value}, w.ownsRow B 155 2 (.slice A n c) n xs → w'.ownsRow B 155 2 (.slice A n c) n xs := fun ho => row_keep ho fun k hkl hv => hk k hkl (by have := (row_lt ho hv).1; omega)
  exact ⟨hg.trans h.hg, hm.trans h.hm, h.hml, h.hB, h.hBm, kp h.row, kp h.old, h.ne, h.ins.keep hsz fun b hF hb => hk b hb hF.2, h.ways.keep hsz fun b hF hb => hk b hb hF.2, h.win, h.small⟩
theorem WalkC.below (h : WalkC B g mb e w at_ H hn hc here L ln lc last met) (hb : Below w.heap.size w w') : WalkC B g mb e w' at_ H hn hc here L ln lc last met :=
  h.keep (hb.mono (by have := h.lt; have := h.hB; omega)) (hb.block g h.lt.1) (hb.block mb h.lt.2.1) fun k cs f hk => hb.block k (Array.getElem?_eq_some_iff.1 hk).1
theorem WalkC.drewN (h : WalkC B g mb e w at_ H hn hc here L ln lc last met) (q : Nat) : WalkC B g mb e (w.drewN q) at_ H hn hc here L ln lc last met := h.below (below_drewN (Below.refl _ _) q)
end
section
variable {B g mb : Nat} {e : WEnv} {w w' : World} {at_ : Nat} {H : Option Addr} {hn hc : Nat} {here : List (Nat × Nat)} {L : Option Addr} {ln lc : Nat} {last : List (Nat × Nat)} {met : List Int}
theorem WalkC.owned (h : WalkC B g mb e w at_ H hn hc here L ln lc last met) (k : Nat) : Owned g w k ↔ (Value.slice H hn hc).ownBlock = some k ∨ (Value.slice L ln lc).ownBlock = some k := by
  have c := h.cells
  constructor
  · rintro ⟨v, hv | hv, e⟩
    · rw [c.2.2.2.2.1] at hv; injection hv with hv; subst hv; exact .inl e
    · rw [c.2.2.2.2.2.1] at hv; injection hv with hv; subst hv; exact .inr e
  · rintro (e | e)
    · exact ⟨_, .inl c.2.2.2.2.1, e⟩
    · exact ⟨_, .inr c.2.2.2.2.2.1, e⟩
theorem WalkC.free (h : WalkC B g mb e w at_ H hn hc here L ln lc last met) {k : Nat} {o : Obj} (hk : w.heap[k]? = some o) (ho : ∀ cs f, o ≠ Obj.cells cs 155 f) : ¬ Owned g w k := fun hw => by
  have key : ∀ {A : Option Addr} {n c : Nat} {xs : List Value}, w.ownsRow B 155 2 (.slice A n c) n xs → (Value.slice A n c).ownBlock ≠ some k := fun hr e => by
    rcases hr.2 with ⟨e1, _⟩ | ⟨b, cap, cur, e1, _, hb', _⟩
    · rw [e1] at e; cases e
    · rw [e1] at e; injection e with e; have e : b = k := e; subst e; rw [hb'] at hk; injection hk with hk; exact ho _ _ hk.symm
  rcases (h.owned k).1 hw with e | e
  · exact key h.row e
  · exact key h.old e
theorem tch_of {at' : Nat} {H' : Option Addr} {hn' hc' : Nat} {here' : List (Nat × Nat)} {L' : Option Addr} {ln' lc' : Nat} {last' : List (Nat × Nat)} {met' : List Int} (h : WalkC B g mb e w at_ H hn hc here L ln lc last met) (h' : WalkC B g mb e w' at' H' hn' hc' here' L' ln' lc' last' met') (hb : Below B w w')
    (hk : ∀ k, k < w.heap.size → k ≠ g → k ≠ mb → (Value.slice H hn hc).ownBlock ≠ some k → (Value.slice L ln lc).ownBlock ≠ some k → w'.heap[k]? = w.heap[k]? ∧ (Value.slice H' hn' hc').ownBlock ≠ some k ∧ (Value.slice L' ln' lc').ownBlock ≠ some k) : Tch B g mb w w' :=
  ⟨hb, fun k o h1 h2 h3 h4 => by
    rw [h.owned, not_or] at h4
    obtain ⟨k1, k2, k3⟩ := hk k (Array.getElem?_eq_some_iff.1 h1).1 h2 h3 h4.1 h4.2
    refine ⟨k1.trans h1, ?_⟩
    rw [h'.owned, not_or]
    exact ⟨k2, k3⟩⟩
end
structure SRow where
  A : Option Addr
  n : Nat
  c : Nat
  xs : List (Nat × Nat)
def WalkS (B g mb : Nat) (e : WEnv) (w : World) (at_ : Nat) (here : List (Nat × Nat)) (last : SRow) (met : List Int) : Prop :=
  ∃ H hn hc, WalkC B g mb e w at_ H hn hc here last.A last.n last.c last.xs met
theorem WalkS.below {B g mb : Nat} {e : WEnv} {w w' : World} {at_ : Nat} {here : List (Nat × Nat)} {last : SRow} {met : List Int} (h : WalkS B g mb e w at_ here last met) (hb : Below w.heap.size w w') : WalkS B g mb e w' at_ here last met := by
  obtain ⟨H, hn, hc, h⟩ := h
  exact ⟨H, hn, hc, h.below hb⟩
end Go.Proofs.YtaapbmdojkjphaaGreat
namespace Go.Proofs.YtaapbmdojkjphaaGreat
open Go Go.RowKit
set_option linter.unusedVariables false
set_option maxRecDepth 20000
def codes (xs : List IV) : List InstL := xs.map IV.i
theorem codes_app (a b : List IV) : codes (a ++ b) = codes a ++ codes b := by simp [codes]
theorem codes_len (a : List IV) : (codes a).length = a.length := by simp [codes]
def AddedX (B g : Nat) (w : World) (P : Option Addr) (q pc : Nat) (xs : List IV) (ys : List InstL) (e : Ending) (w' : World) : Prop :=
  e = .returned (.tuple #[]) ∧ ∃ P' pc' xs', WrS B g w' P' (q + ys.length) pc' xs' ∧ codes xs' = codes xs ++ ys ∧ Wk B g (.slice P q pc) w w' ∧ Vk w (.slice P q pc) (.slice P' (q + ys.length) pc')
def TreeX (B g : Nat) (w0 : World) (v : Value) (f : Nat → List InstL) : Prop :=
  ∀ w P q pc xs, Below B w0 w → WrS B g w P q pc xs → q + (f q).length ≤ 20000 → Calls Tryz.prog 40 #[.pointer (some ⟨g, 0, none⟩), v] w (AddedX B g w P q pc xs (f q))
def RowX (B g : Nat) (w0 : World) (v : Value) (f : Nat → List InstL) : Prop :=
  ∀ w P q pc xs, Below B w0 w → WrS B g w P q pc xs → q + (f q).length ≤ 20000 → Calls Tryz.prog 68 #[.pointer (some ⟨g, 0, none⟩), v] w (AddedX B g w P q pc xs (f q))
theorem AddedX.behind {B g q pc : Nat} {w w1 w' : World} {P : Option Addr} {xs : List IV} {ys : List InstL} {e : Ending} (hB : B ≤ w.heap.size) (hb : Below w.heap.size w w1) (h : AddedX B g w1 P q pc xs ys e w') : AddedX B g w P q pc xs ys e w' := by
  obtain ⟨he, P', pc', xs', h1, hc, h2, h3⟩ := h
  exact ⟨he, P', pc', xs', h1, hc, (Wk.of_below hB hb).trans (Vk.refl _ _) h2, fun b hb' hn => h3 b (Nat.lt_of_lt_of_le hb' hb.size) hn⟩
def rowCode (fs : Nat → Nat → List InstL) : Nat → Nat → List InstL
  | 0, _ => []
  | j + 1, q => rowCode fs j q ++ fs j (q + (rowCode fs j q).length)
theorem rowCode_mono (fs : Nat → Nat → List InstL) (q : Nat) {a b : Nat} (h : a ≤ b) : (rowCode fs a q).length ≤ (rowCode fs b q).length := by
  induction h with
  | refl => exact Nat.le_refl _
  | step _ ih => rw [rowCode, List.length_append]; omega
def loopCode (f : Nat → List InstL) (q : Nat) : List InstL := ⟨2, [], (q : Int) + 1, (q : Int) + 1 + ((f (q + 1)).length : Int) + 1⟩ :: f (q + 1) ++ [⟨2, [], (q : Int) + 1, (q : Int) + 1 + ((f (q + 1)).length : Int) + 1⟩]
theorem loopCode_len (f : Nat → List InstL) (q : Nat) : (loopCode f q).length = (f (q + 1)).length + 2 := by simp [loopCode]
set_option maxHeartbeats 4000000 in
theorem tree_charX {B g : Nat} {w0 : World} {A D : Option Addr} {ns cs nk ck : Nat} {mn mx : Int} {s : List (Int × Int)} (hr : RowF (fun b => b < B) w0 A ns s) (hn : ns ≤ 2000000) (hBw : B ≤ w0.heap.size) : TreeX B g w0 (.agg #[.int .i64 1, .slice A ns cs, .int .i64 mn, .int .i64 mx, .slice D nk ck]) (fun q => [⟨1, s, (q : Int) + 1, 0⟩]) := by
  intro w P q pc xs hb0 h hq
  have hq : q + 1 ≤ 20000 := hq
  have hBg := h.hB
  have hgl := h.lt
  have HS := Lib.hid h
  have HC := Lib.hid (gclone_any A ns cs s (w.alloc (.cells #[.int .i64 1, .slice A ns cs, .int .i64 mn, .int .i64 mx, .slice D nk ck] 27)) ((hr.keep hb0.size fun b hb _ => hb0.block b hb).below ((Below.refl _ _).alloc (Nat.le_refl _) _)) hn)
  clear h hr
  go_enter Tryz.func40, Tryz.ntmps40
  go_wp2_with (first
    | (go_at_call 67; (with_reducible refine HC.out.mono ?_); rintro e w1 ⟨P1, q1, pc1, rfl, ho, hb⟩; have hb1 : Below w.heap.size w w1 := ((Below.refl _ _).alloc (Nat.le_refl _) _).trans (hb.mono (by simp)); have HB1 := Lib.hid hb1; have HPu := Lib.hid (wput_any (HS.out.below hb1) 1 0 0 P1 q1 pc1 s ((rowF_own ho).move (Nat.le_refl _) fun b hF hlt => ⟨⟨by have hF : (w.alloc (.cells #[.int .i64 1, .slice A ns cs, .int .i64 mn, .int .i64 mx, .slice D nk ck] 27)).heap.size ≤ b := hF; simp at hF; omega, by have hF : (w.alloc (.cells #[.int .i64 1, .slice A ns cs, .int .i64 mn, .int .i64 mx, .slice D nk ck] 27)).heap.size ≤ b := hF; simp at hF; omega, fun e => by have hF : (w.alloc (.cells #[.int .i64 1, .slice A ns cs, .int .i64 mn, .int .i64 mx, .slice D nk ck] 27)).heap.size ≤ b := hF; simp at hF; have := (row_lt HS.out.row e).2; omega⟩, rfl⟩) (by omega)); clear ho hb hb1)
    | (go_at_call 66; (with_reducible refine HPu.out.mono ?_); rintro e w2 ⟨rfl, P', pc', hR1, hR2, hR3⟩; have HR := Lib.hid (And.intro hR1 (And.intro hR2 hR3)); clear hR1 hR2 hR3))
  go_end0
  exact AddedX.behind (by omega) HB1.out ⟨rfl, P', pc', _, HR.out.1, by rw [codes_app]; rfl, HR.out.2.1, HR.out.2.2⟩
set_option maxHeartbeats 4000000 in
theorem row_addsX {B g : Nat} {w0 : World} {D : Option Addr} {nk ck : Nat} {K : Wood} (hk : KidsAt (fun b => b < B) w0 D nk K) (hnk : nk ≤ 1000) (hBw : B ≤ w0.heap.size) (fs : Nat → Nat → List InstL)
    (HT : ∀ j, j < nk → ∀ v, NodeIn (fun b => b < B) w0 v (K.nth j) → TreeX B g w0 v (fs j)) : RowX B g w0 (.slice D nk ck) (rowCode fs nk) := by
  intro w P q pc xs hb0 h hq
  have HS := Lib.hid h
  have HK := Lib.hid hk
  have HTr := Lib.hid HT
  have HQ := Lib.hid hq
  have HB := Lib.hid (And.intro hb0 hBw)
  clear h hk HT hb0 hBw hq
  go_enter Tryz.func68, Tryz.ntmps68
  go_wp2_with fail
  go_loopw [8] (fun vi wr => ∃ (j pc' : Nat) (P' : Option Addr) (xs' : List IV), vi = .int .i64 (j : Int) ∧ j ≤ nk ∧ Hid (WrS B g wr P' (q + (rowCode fs j q).length) pc' xs' ∧ codes xs' = codes xs ++ rowCode fs j q ∧ Wk B g (.slice P q pc) w wr ∧ Vk w (.slice P q pc) (.slice P' (q + (rowCode fs j q).length) pc'))) (fun vi _ => nk - (match vi with | .int _ j => j.toNat | _ => 0))
  case atStart =>
    refine ⟨0, pc, P, xs, rfl, Nat.zero_le _, Lib.hid ?_⟩
    rw [show (rowCode fs 0 q).length = 0 from rfl, Nat.add_zero]
    exact ⟨HS.out, (List.append_nil _).symm, Wk.refl _ _ _ _, Vk.refl _ _⟩
  case round =>
    obtain ⟨j, pc', P', xs', rfl, hj, H⟩ := hrel
    by_cases hlt : j < nk
    · have hbr : Below B w0 wr := HB.out.1.trans H.out.2.2.1.1
      have hkw : KidsAt (fun b => b < B) wr D nk K := HK.out.keep hbr.size fun b hb _ => hbr.block b hb
      obtain ⟨b, o, op, s, mn, mx, k', A', D', ns, cs, nk', ck', rfl, hbl, e, c0, c1, c2, c3, c4, hin⟩ := hkw.kid hlt
      have hin0 : NodeIn (fun b => b < B) w0 (.agg #[.int .i64 op, .slice A' ns cs, .int .i64 mn, .int .i64 mx, .slice D' nk' ck']) (K.nth j) := by
        obtain ⟨b2, o2, op2, s2, mn2, mx2, k2, A2, D2, ns2, cs2, nk2, ck2, hD2, hbl2, e2, d0, d1, d2, d3, d4, hin2⟩ := HK.out.kid hlt
        injection hD2 with hD2
        injection hD2 with e3 e4
        subst e3; subst e4
        have hbB : b < B := by
          obtain ⟨b5, o5, hD5, hF5, _⟩ := HK.out.2 (by omega)
          injection hD5 with hD5
          injection hD5 with e5 _
          subst e5
          exact hF5
        have up : ∀ x, wr.cell? ⟨b, x, none⟩ = w0.cell? ⟨b, x, none⟩ := fun x => hbr.cell (p := ⟨b, x, none⟩) hbB
        rw [up] at c0 c1 c2 c3 c4
        rw [d0] at c0; rw [d1] at c1; rw [d2] at c2; rw [d3] at c3; rw [d4] at c4
        injection c0 with c0; injection c0 with _ c0
        injection c1 with c1; injection c1 with a1 a2 a3
        injection c2 with c2; injection c2 with _ c2
        injection c3 with c3; injection c3 with _ c3
        injection c4 with c4; injection c4 with b1 b2 b3
        subst c0; subst a1; subst a2; subst a3; subst c2; subst c3; subst b1; subst b2; subst b3
        exact hin2
      have hcm := rowCode_mono fs q (show j + 1 ≤ nk by omega)
      have hcl : (rowCode fs (j + 1) q).length = (rowCode fs j q).length + (fs j (q + (rowCode fs j q).length)).length := by rw [rowCode, List.length_append]
      have HC := Lib.hid (HTr.out j hlt _ hin0 (wr.alloc (.cells #[.int .i64 op, .slice A' ns cs, .int .i64 mn, .int .i64 mx, .slice D' nk' ck'] 27)) P' (q + (rowCode fs j q).length) pc' xs' (hbr.alloc (by have := hbr.size; have := HB.out.2; omega) _) (H.out.1.below ((Below.refl _ _).alloc (Nat.le_refl _) _)) (by have := HQ.out; omega))
      have HCM := Lib.hid hcl
      have HBR := Lib.hid hbr
      clear hin hin0 hkw e hbr hcm hcl
      go_wp2_with (go_at_call 40; (with_reducible refine HC.out.mono ?_); rintro e w2 hv; have HV := Lib.hid hv; obtain ⟨rfl, -⟩ := hv)
      obtain ⟨_, P2, pc2, xs2, k1, kc, k2, k3⟩ := AddedX.behind (B := B) (by have := HBR.out.size; have := HB.out.2; omega) ((Below.refl wr.heap.size wr).alloc (Nat.le_refl _) _) HV.out
      have hcl := HCM.out
      rw [Nat.add_assoc, ← hcl] at k1 k3
      exact ⟨⟨j + 1, pc2, P2, xs2, rfl, hlt, Lib.hid ⟨k1, by rw [kc, H.out.2.1, List.append_assoc]; rfl, H.out.2.2.1.trans H.out.2.2.2 k2, H.out.2.2.2.trans H.out.2.2.1.2.1 k3⟩⟩, by show nk - ((j : Int) + 1).toNat < nk - (j : Int).toNat; omega⟩
    · obtain rfl : j = nk := by omega
      go_wp2
      go_end0
      exact ⟨rfl, P', pc', xs', H.out.1, H.out.2.1, H.out.2.2.1, H.out.2.2.2⟩
theorem codes_setIV (f : InstL → InstL) (i : Nat) (zs : List IV) : codes (setIV f i zs) = (codes zs).modify i f := by
  unfold codes setIV
  apply List.ext_getElem?
  intro j
  simp only [List.getElem?_map, List.getElem?_modify, Option.map_eq_map]
  cases zs[j]? with
  | none => rfl
  | some v => simp only [Option.map_some]; split <;> rfl
theorem modify_app (f : InstL → InstL) : ∀ (xs ys : List InstL) (i : Nat), xs.length ≤ i → (xs ++ ys).modify i f = xs ++ ys.modify (i - xs.length) f
  | [], ys, i, _ => rfl
  | x :: xs, ys, 0, h => by simp at h
  | x :: xs, ys, i + 1, h => by
    have := modify_app f xs ys i (by simpa using h)
    rw [List.cons_append, List.modify_succ_cons, this, List.length_cons, Nat.add_sub_add_right, List.cons_append]
theorem setIV_app (f : InstL → InstL) (i : Nat) (xs zs : List IV) (ys : List InstL) (h : codes zs = codes xs ++ ys) (hi : xs.length ≤ i) : codes (setIV f i zs) = codes xs ++ ys.modify (i - xs.length) f := by
  rw [codes_setIV, h, modify_app f _ _ _ (by rw [codes_len]; exact hi), codes_len]
theorem setIV_codes (f : InstL → InstL) (xs : List IV) (ys : List InstL) (zs : List IV) (x : InstL) (h : codes zs = codes xs ++ x :: ys) (i : Nat) (hi : i = xs.length) : codes (setIV f i zs) = codes xs ++ f x :: ys := by
  rw [setIV_app f i xs zs _ h (by omega), hi, Nat.sub_self]
  rfl
set_option maxHeartbeats 8000000 in
theorem loop_anyX {B g q pc : Nat} {w : World} {P : Option Addr} {xs : List IV} {v : Value} (f : Nat → List InstL) (h : WrS B g w P q pc xs) (hq : q + (f (q + 1)).length + 2 ≤ 20000) (HR : RowX B g w v f) :
    Calls Tryz.prog 106 #[.pointer (some ⟨g, 0, none⟩), v] w (AddedX B g w P q pc xs (loopCode f q)) := by
  obtain ⟨c, hc⟩ : ∃ c, c = (f (q + 1)).length := ⟨_, rfl⟩
  rw [← hc] at hq
  have HR : ∀ w1 P1 pc1 xs1, Below B w w1 → WrS B g w1 P1 (q + 1) pc1 xs1 → Calls Tryz.prog 68 #[.pointer (some ⟨g, 0, none⟩), v] w1 (fun e w' => e = .returned (.tuple #[]) ∧ ∃ P' pc' xs', WrS B g w' P' (q + 1 + c) pc' xs' ∧ codes xs' = codes xs1 ++ f (q + 1) ∧ Wk B g (.slice P1 (q + 1) pc1) w1 w' ∧ Vk w1 (.slice P1 (q + 1) pc1) (.slice P' (q + 1 + c) pc')) := fun w1 P1 pc1 xs1 hb h1 => by
    have := HR w1 P1 (q + 1) pc1 xs1 hb h1 (by omega)
    unfold AddedX at this
    rwa [← hc] at this
  have hxq := h.len
  have HXQ := Lib.hid (And.intro hxq hc)
  clear hxq hc
  have hgl := h.lt
  have HSp := Lib.hid (split_any h (by omega))
  have HRo := Lib.hid HR
  clear h HR
  go_enter Tryz.func106, Tryz.ntmps106
  go_wp2_with (first
    | (go_at_call 104; (with_reducible refine HSp.out.mono ?_); rintro e w1 ⟨bx, ix, rfl, hh, hbx, hix, P1, pc1, k1, k2, k3, k4, k5⟩; have HS1 := Lib.hid k1; have HH := Lib.hid (And.intro hh (And.intro hbx (And.intro hix (And.intro k2 (And.intro k3 (And.intro k4 k5)))))); have HC := Lib.hid (HRo.out w1 P1 pc1 _ k2.1 k1); have g1 : w1.cell? ⟨g, 0, none⟩ = some (.slice P1 (q + 1) pc1) := cell_of_row w1 g 0 _ _ (0, 0) k1.hg; clear hh hbx hix k1 k2 k3 k4 k5)
    | (go_at_call 68; (with_reducible refine HC.out.mono ?_); rintro e w2 ⟨rfl, P2, pc2, xs2, k1, kc, k2, k3⟩; have HS2 := Lib.hid k1; have HCO := Lib.hid kc; have HH2 := Lib.hid (And.intro k2 k3); have g2 : w2.cell? ⟨g, 0, none⟩ = some (.slice P2 (q + 1 + c) pc2) := cell_of_row w2 g 0 _ _ (0, 0) k1.hg; clear k1 kc k2 k3))
  have HPu : Hid (∀ (X : World) (d : Nat), Below w2.heap.size w2 X → X.heap[d]? = some (.cells #[.int .i64 2, .slice none 0 0, .int .i64 ((q : Int) + 1), .int .i64 ((q : Int) + 1 + (c : Int) + 1)] 89 (0, 0)) → ∃ v' w', (Builtin.append_ #[58, 58] 58 #[.slice P2 (q + 1 + c) pc2, .slice (some ⟨d, 0, none⟩) 1 1]).run Tryz.prog X = .ok v' w' ∧ PutR B g P2 (q + 1 + c) pc2 xs2 ⟨⟨2, [], (q : Int) + 1, (q : Int) + 1 + (c : Int) + 1⟩, none, 0, 0⟩ w2 v' w') := Lib.hid fun X d hX hd => put_ex HS2.out (rowF_nil _ _) hX hd (by omega)
  have hw : IntKind.i64.wrap ((q : Int) + 1 + (c : Int) + 1) = (q : Int) + 1 + (c : Int) + 1 := by rw [IntKind.wrap_i64]; omega
  have g3 : ∀ o, (w2.alloc o).cell? ⟨g, 0, none⟩ = some (.slice P2 (q + 1 + c) pc2) := fun o => cell_of_row _ g 0 _ _ (0, 0) ((Below.heap_alloc w2 o g HS2.out.lt).trans HS2.out.hg)
  clear g1
  go_region_law (first | (refine step_append_ex rfl (.tmp 20) (.tmp 29) 58 rfl rfl _ _ (by rfl) (by rfl) _ (HPu.out _ _ (by first | exact (Below.refl _ _).alloc (Nat.le_refl _) _ | exact ((Below.refl _ _).alloc (Nat.le_refl _) _).drew | exact (Below.refl _ _).drew.alloc (by simp) _) (by first | exact hp_new rfl | exact hp_drew (hp_new rfl) | exact hp_new (by simp) | exact hp_drew (hp_new (by simp)))) ?_; intro v' w' hR; obtain ⟨P3, pc3, rfl, hc1, hc2, hR1, hR2, hR3⟩ := hR))
  all_goals
    have HPR := Lib.hid (And.intro hR1 (And.intro hR2 hR3))
    obtain ⟨w4, hw4⟩ : ∃ w4, w4 = w'.setCell ⟨g, 0, none⟩ (.slice P3 (q + 1 + c + 1) pc3) := ⟨_, rfl⟩
    rw [← hw4] at HPR
    rw [← hw4]
    have hne := HH.out
    have hh2 := hne.1.keep HH2.out.1 (by omega) (by omega) hne.2.2.2.2.2.1 hne.2.2.2.2.2.2
    have n3 := HH2.out.2 bx hne.1.lt.1 hne.2.2.2.2.2.1
    have n4 := HH2.out.2 ix hne.1.lt.2 hne.2.2.2.2.2.2
    have hh4 := hh2.keep HPR.out.2.1 (by omega) (by omega) n3 n4
    have HHe := Lib.hid (here_any HPR.out.1 hh4 (i := q) (by omega) (by omega))
    clear hw4 hR1 hR2 hR3 hc1 hc2 hne hh2 n3 n4 hh4 g2 g3 hw
    go_wp2_with (go_at_call 125; (with_reducible refine HHe.out.mono ?_); rintro e w5 ⟨rfl, k1, k2⟩; have HF := Lib.hid (And.intro k1 k2); clear k1 k2)
    go_end0
    have hcl : (loopCode f q).length = c + 2 := by rw [loopCode_len, ← HXQ.out.2]
    refine ⟨rfl, P3, pc3, _, by rw [hcl, show q + (c + 2) = q + 1 + c + 1 by omega]; exact HF.out.1, ?_, ?_, ?_⟩
    · rw [setIV_codes _ xs (f (q + 1) ++ [⟨2, [], (q : Int) + 1, (q : Int) + 1 + (c : Int) + 1⟩]) _ ⟨2, [], (q : Int) + 1, 0⟩ (by rw [codes_app, HCO.out, codes_app]; simp [codes]) q HXQ.out.1.symm]
      unfold loopCode
      rw [← HXQ.out.2]
      simp only [List.cons_append]
      congr 3
    · exact ((HH.out.2.2.2.1.trans HH.out.2.2.2.2.1 HH2.out.1).trans (HH.out.2.2.2.2.1.trans HH.out.2.2.2.1.2.1 HH2.out.2) HPR.out.2.1).trans ((HH.out.2.2.2.2.1.trans HH.out.2.2.2.1.2.1 HH2.out.2).trans (HH.out.2.2.2.1.trans HH.out.2.2.2.2.1 HH2.out.1).2.1 HPR.out.2.2) HF.out.2
    · rw [hcl, show q + (c + 2) = q + 1 + c + 1 by omega]
      exact (HH.out.2.2.2.2.1.trans HH.out.2.2.2.1.2.1 HH2.out.2).trans (HH.out.2.2.2.1.trans HH.out.2.2.2.2.1 HH2.out.1).2.1 HPR.out.2.2
end Go.Proofs.YtaapbmdojkjphaaGreat
namespace Go.Proofs.YtaapbmdojkjphaaGreat
open Go Go.RowKit
set_option linter.unusedVariables false
set_option maxRecDepth 20000
theorem kid_then {B : Nat} {w0 wr : World} {D : Option Addr} {nk : Nat} {K : Wood} (hk : KidsAt (fun b => b < B) w0 D nk K) (hbr : Below B w0 wr) {j : Nat} (hlt : j < nk) : ∃ (b o : Nat) (op mn mx : Int) (A' D' : Option Addr) (ns cs nk' ck' : Nat), D = some ⟨b, o, none⟩ ∧ b < B ∧ b < wr.heap.size ∧
    wr.cell? ⟨b, o + j * 5, none⟩ = some (.int .i64 op) ∧ wr.cell? ⟨b, o + j * 5 + 1, none⟩ = some (.slice A' ns cs) ∧ wr.cell? ⟨b, o + j * 5 + 2, none⟩ = some (.int .i64 mn) ∧ wr.cell? ⟨b, o + j * 5 + 3, none⟩ = some (.int .i64 mx) ∧ wr.cell? ⟨b, o + j * 5 + 4, none⟩ = some (.slice D' nk' ck') ∧
    NodeIn (fun b => b < B) w0 (.agg #[.int .i64 op, .slice A' ns cs, .int .i64 mn, .int .i64 mx, .slice D' nk' ck']) (K.nth j) := by
  obtain ⟨b2, o2, op2, s2, mn2, mx2, k2, A2, D2, ns2, cs2, nk2, ck2, hD2, hbl2, e2, d0, d1, d2, d3, d4, hin2⟩ := hk.kid hlt
  have hbB : b2 < B := by
    obtain ⟨b5, o5, hD5, hF5, _⟩ := hk.2 (by omega)
    rw [hD2] at hD5
    injection hD5 with hD5
    injection hD5 with e5 _
    subst e5
    exact hF5
  have up : ∀ x, wr.cell? ⟨b2, x, none⟩ = w0.cell? ⟨b2, x, none⟩ := fun x => hbr.cell (p := ⟨b2, x, none⟩) hbB
  exact ⟨b2, o2, op2, mn2, mx2, A2, D2, ns2, cs2, nk2, ck2, hD2, hbB, Nat.lt_of_lt_of_le hbl2 hbr.size, (up _).trans d0, (up _).trans d1, (up _).trans d2, (up _).trans d3, (up _).trans d4, hin2⟩
end Go.Proofs.YtaapbmdojkjphaaGreat
