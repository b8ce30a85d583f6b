/- The longest match from a place, the first one from a place on. -/
import Derived.Test.YtegcebgoiocakaaM06
import Derived.Test.YtegcebgoiocakaaM12
import Derived.Laws.ResultCell
namespace Go.Proofs.Ytegcebgoiocakaa
open Go Go.RowKit
set_option linter.unusedVariables false
set_option maxRecDepth 20000

def endV (T : List Int) : Option Nat → Int
  | none => 0
  | some e => (atF T e : Int)
/-- What is told of the longest match from a number. -/
def LongV (p : List InstL) (T : List Int) (a : Int) (v : Int) (ok : Bool) : Prop :=
  (∃ j o, j ≤ (rsT T).length ∧ a = (atF T j : Int) ∧ Long p (rsT T) j o ∧ v = endV T o ∧ ok = o.isSome) ∨ ((¬ ∃ j, j ≤ (rsT T).length ∧ a = (atF T j : Int)) ∧ v = 0 ∧ ok = false)
theorem atF_inj {T : List Int} {i j : Nat} (hi : i ≤ (rsT T).length) (hj : j ≤ (rsT T).length) (h : atF T i = atF T j) : i = j := by
  rcases Nat.lt_trichotomy i j with h1 | h1 | h1
  · have := atF_lt (T := T) hj h1; omega
  · exact h1
  · have := atF_lt (T := T) hi h1; omega
theorem LongV.uniq {p : List InstL} {T : List Int} {a v v' : Int} {ok ok' : Bool} (h : LongV p T a v ok) (h' : LongV p T a v' ok') : v = v' ∧ ok = ok' := by
  rcases h with ⟨j, o, h1, h2, h3, h4, h5⟩ | ⟨h1, h2, h3⟩
  · rcases h' with ⟨j', o', k1, k2, k3, k4, k5⟩ | ⟨k1, k2, k3⟩
    · obtain rfl := atF_inj h1 k1 (by omega)
      obtain rfl := h3.uniq k3
      exact ⟨h4.trans k4.symm, h5.trans k5.symm⟩
    · exact absurd ⟨j, h1, h2⟩ k1
  · rcases h' with ⟨j', o', k1, k2, k3, k4, k5⟩ | ⟨k1, k2, k3⟩
    · exact absurd ⟨j', k1, k2⟩ h1
    · exact ⟨h2.trans k2.symm, h3.trans k3.symm⟩
theorem FirstIs.uniq {p : List InstL} {rs : List Int} {lo hi : Nat} {x y : Option (Nat × Nat)} (hx : FirstIs p rs lo hi x) (hy : FirstIs p rs lo hi y) : x = y := by
  cases x with
  | none => cases y with
    | none => rfl
    | some q => exact absurd hy.2.2.1.1 (hx _ _ hy.1 hy.2.1)
  | some q => cases y with
    | none => exact absurd hx.2.2.1.1 (hy _ _ hx.1 hx.2.1)
    | some q' =>
      obtain ⟨b, e⟩ := q
      obtain ⟨b', e'⟩ := q'
      obtain ⟨h1, h2, h3, h4⟩ := hx
      obtain ⟨k1, k2, k3, k4⟩ := hy
      rcases Nat.lt_trichotomy b b' with h | h | h
      · exact absurd h3.1 (k4 _ _ h1 h)
      · subst h
        have := h3.uniq k3
        injection this with this
        rw [this]
      · exact absurd k3.1 (h4 _ _ k1 h)
/-- The first place that isn't below a number. -/
def PlaceFrom (T : List Int) (a : Int) (k : Nat) : Prop := k ≤ (rsT T).length ∧ (∀ j, j < k → (atF T j : Int) < a) ∧ a ≤ (atF T k : Int)
theorem PlaceFrom.uniq {T : List Int} {a : Int} {k k' : Nat} (h : PlaceFrom T a k) (h' : PlaceFrom T a k') : k = k' := by
  rcases Nat.lt_trichotomy k k' with h1 | h1 | h1
  · have := h'.2.1 k h1; have := h.2.2; omega
  · exact h1
  · have := h.2.1 k' h1; have := h'.2.2; omega
theorem placeFrom_some {T : List Int} {a : Int} (h : a ≤ (T.length : Int)) : ∃ k, PlaceFrom T a k := by
  have key : ∀ n, n ≤ (rsT T).length → (∃ k, PlaceFrom T a k) ∨ ∀ j, j ≤ n → (atF T j : Int) < a := by
    intro n
    induction n with
    | zero =>
      intro h0
      by_cases hc : a ≤ (atF T 0 : Int)
      · exact .inl ⟨0, h0, fun j hj => by omega, hc⟩
      · exact .inr fun j hj => by obtain rfl : j = 0 := by omega
                                  omega
    | succ n ih =>
      intro h0
      rcases ih (by omega) with h1 | h1
      · exact .inl h1
      · by_cases hc : a ≤ (atF T (n + 1) : Int)
        · exact .inl ⟨n + 1, h0, fun j hj => h1 j (by omega), hc⟩
        · refine .inr fun j hj => ?_
          rcases Nat.lt_or_ge j (n + 1) with h2 | h2
          · exact h1 j (by omega)
          · obtain rfl : j = n + 1 := by omega
            omega
  rcases key _ (Nat.le_refl _) with h1 | h1
  · exact h1
  · have := h1 _ (Nat.le_refl _)
    rw [atF_last] at this
    omega
/-- What is told of the first match from a number on. -/
def FirstV (p : List InstL) (T : List Int) (a : Int) (hit : Int × Int) (ok : Bool) : Prop :=
  ∃ o, ((∃ k, PlaceFrom T a k ∧ FirstIs p (rsT T) k (rsT T).length o) ∨ ((T.length : Int) < a ∧ o = none)) ∧ hit = hitF T o ∧ ok = o.isSome
theorem FirstV.uniq {p : List InstL} {T : List Int} {a : Int} {v v' : Int × Int} {ok ok' : Bool} (h : FirstV p T a v ok) (h' : FirstV p T a v' ok') : v = v' ∧ ok = ok' := by
  obtain ⟨o, h1, h2, h3⟩ := h
  obtain ⟨o', k1, k2, k3⟩ := h'
  have : o = o' := by
    rcases h1 with ⟨k, hk, hf⟩ | ⟨hl, rfl⟩
    · rcases k1 with ⟨k', hk', hf'⟩ | ⟨hl', rfl⟩
      · obtain rfl := hk.uniq hk'
        exact hf.uniq hf'
      · have := hk.2.2
        have := atF_max (T := T) hk.1
        omega
    · rcases k1 with ⟨k', hk', hf'⟩ | ⟨hl', rfl⟩
      · have := hk'.2.2
        have := atF_max (T := T) hk'.1
        omega
      · rfl
  subst this
  exact ⟨h2.trans k2.symm, h3.trans k3.symm⟩
theorem long_wrong (A : Option Addr) (n c : Nat) (l : List IV) (T : ByteArray) (at_ : Int) (w : World) (h : InsAt w A n l) (hr : rightB n l = false) (hn : n ≤ 1000000) :
    Calls Try.prog 14 #[.slice A n c, .string T, .int .i64 at_] w fun e w' => e = .returned (.tuple #[.int .i64 0, .bool false]) ∧ Below w.heap.size w w' := by
  have HR := Lib.hid (right_any A n c l w h hn)
  rw [hr] at HR
  go_enter Try.func14, Try.ntmps14
  go_wp2_with (go_at_call 27; (with_reducible refine HR.out.mono ?_); rintro e w2 ⟨rfl, hb⟩; have HB := Lib.hid hb; clear hb)
  go_ret2
  exact ⟨rfl, HB.out⟩
theorem hit_box {w w' : World} {x y : Int} (hb : Below (w.alloc (.cells #[.int .i64 x, .int .i64 y] 35)).heap.size (w.alloc (.cells #[.int .i64 x, .int .i64 y] 35)) w') : w'.heap[w.heap.size]? = some (.cells #[.int .i64 x, .int .i64 y] 35 (0, 0)) := (hb.block _ (by simp)).trans (heap_alloc_new w _)
theorem box_two {w : World} {b : Nat} {x y : Value} {t : TypeId} (h : w.heap[b]? = some (.cells #[x, y] t (0, 0))) : w.cell? ⟨b, 0, none⟩ = some x ∧ w.cell? ⟨b, 1, none⟩ = some y ∧ w.frozen? ⟨b, 0, none⟩ = false ∧ w.frozen? ⟨b, 1, none⟩ = false :=
  ⟨cell_of_row _ b 0 _ _ (0, 0) h, cell_of_row _ b 1 _ _ (0, 0) h, by simp [World.frozen?, h], by simp [World.frozen?, h]⟩
theorem box_put {w : World} {b : Nat} {x y x' y' : Value} {t : TypeId} (h : w.heap[b]? = some (.cells #[x, y] t (0, 0))) : ((w.setCell ⟨b, 0, none⟩ x').setCell ⟨b, 1, none⟩ y').heap[b]? = some (.cells #[x', y'] t (0, 0)) := by
  rw [heap_setCell_same _ b 1 _ _ _ (heap_setCell_same w b 0 _ _ _ h)]; rfl
theorem first_wrong (A : Option Addr) (n c : Nat) (l : List IV) (T : ByteArray) (at_ : Int) (w : World) (h : InsAt w A n l) (hr : rightB n l = false) (hn : n ≤ 1000000) :
    Calls Try.prog 16 #[.slice A n c, .string T, .int .i64 at_] w fun e w' => e = .returned (.tuple #[.agg #[.int .i64 0, .int .i64 0], .bool false]) ∧ Below w.heap.size w w' := by
  have hb0 : Below w.heap.size w (w.alloc (.cells #[.int .i64 0, .int .i64 0] 35)) := (Below.refl _ _).alloc (Nat.le_refl _) _
  have HR := Lib.hid (right_any A n c l _ (h.below hb0) hn)
  rw [hr] at HR
  have HB0 := Lib.hid hb0
  clear hb0 h hr
  go_enter Try.func16, Try.ntmps16
  go_wp2_with (go_at_call 27; (with_reducible refine HR.out.mono ?_); rintro e w2 ⟨rfl, hb⟩; have HB := Lib.hid (And.intro (HB0.out.trans (hb.mono (by simp))) (hit_box hb)); obtain ⟨x0, x1, y0, y1⟩ := box_two (hit_box hb); clear hb)
  have hset := box_put (x' := .int .i64 0) (y' := .int .i64 0) HB.out.2
  have hbf := (HB.out.1.setCell (p := ⟨w.heap.size, 0, none⟩) (Nat.le_refl _) (.int .i64 0)).setCell (p := ⟨w.heap.size, 1, none⟩) (Nat.le_refl _) (.int .i64 0)
  obtain ⟨z0, z1, _, _⟩ := box_two hset
  generalize (w2.setCell ⟨w.heap.size, 0, none⟩ (.int .i64 0)).setCell ⟨w.heap.size, 1, none⟩ (.int .i64 0) = wf at hset z0 z1 hbf ⊢
  clear x0 x1 y0 y1 hset
  refine bodyPost_ret (v := .tuple #[.agg #[.int .i64 0, .int .i64 0], .bool false]) ?_ rfl ⟨rfl, hbf⟩
  rw [results_cell_tmp rfl]; go_simp
set_option maxHeartbeats 4000000 in
theorem long_match {F : Nat → Prop} (A : Option Addr) (n c : Nat) (l : List IV) (T : ByteArray) (at_ : Int) (w : World) (hi0 : InsF F w A n l) (hr : rightB n l = true) (hn : n ≤ 1000) (hT : T.size ≤ 1000) :
    Calls Try.prog 14 #[.slice A n c, .string T, .int .i64 at_] w fun e w' => ∃ v ok, e = .returned (.tuple #[.int .i64 v, .bool ok]) ∧ LongV (l.map fun v => v.i) (nums T) at_ v ok ∧ Below w.heap.size w w' := by
  have hnl := nums_length T
  have HR := Lib.hid (right_any A n c l w hi0.insAt (by omega))
  rw [hr] at HR
  have HI := Lib.hid (And.intro (hi0.mono (F' := fun b => b < w.heap.size) fun b _ h => h) hr)
  have HP := Lib.hid fun w => isPlace_any T at_ w (by omega)
  clear hi0 hr
  by_cases hp : plB (nums T) at_ = true
  · obtain ⟨h0, k, hk⟩ := plB_iff.1 hp
    have hkl := (atF_of hk).2
    have hka := (atF_of hk).1
    have hat : at_ = (atF (nums T) k : Int) := by omega
    rw [hp] at HP
    have HF := Lib.hid fun w2 (hb : Below w.heap.size w w2) => first_any A n c l T w2 (HI.out.1.belowB hb) HI.out.2 hn hT k k (Nat.le_refl _) hkl
    rw [← hat] at HF
    have HK := Lib.hid (And.intro hkl hat)
    clear hp h0 hk hkl hka hat
    go_enter Try.func14, Try.ntmps14
    go_wp2_with (first
      | (go_at_call 27; (with_reducible refine HR.out.mono ?_); rintro e w2 ⟨rfl, hb⟩; have HB := Lib.hid hb; clear hb)
      | (go_at_call 28; (with_reducible refine (HP.out _).mono ?_); rintro e w3 ⟨rfl, hb⟩; have HB2 := Lib.hid (HB.out.trans (hb.mono HB.out.size)); clear hb)
      | (go_at_call 29; (with_reducible refine (HF.out _ HB2.out).mono ?_); rintro e w4 ⟨o, rfl, hf, hb⟩; have HO := Lib.hid (And.intro hf (HB2.out.trans (hb.mono HB2.out.size))); clear hf hb))
    go_ret2
    refine ⟨_, _, rfl, .inl ⟨k, o.map Prod.snd, HK.out.1, HK.out.2, ?_, ?_, by simp⟩, HO.out.2.alloc (HO.out.2.size) _⟩
    · have hf := HO.out.1
      cases o with
      | none => exact fun b => hf k b (Nat.le_refl _) (Nat.le_refl _)
      | some q =>
        obtain ⟨b, e⟩ := q
        obtain ⟨h1, h2, h3, _⟩ := hf
        obtain rfl : b = k := by omega
        exact h3
    · cases o with
      | none => rfl
      | some q => rfl
  · have hno : ¬ ∃ j, j ≤ (rsT (nums T)).length ∧ at_ = (atF (nums T) j : Int) := fun ⟨j, h1, h2⟩ => hp (plB_iff.2 ⟨by omega, j, by rw [h2, Int.toNat_natCast]; exact atF_at h1⟩)
    rw [show plB (nums T) at_ = false by simpa using hp] at HP
    have HNo := Lib.hid hno
    clear hno hp
    go_enter Try.func14, Try.ntmps14
    go_wp2_with (first
      | (go_at_call 27; (with_reducible refine HR.out.mono ?_); rintro e w2 ⟨rfl, hb⟩; have HB := Lib.hid hb; clear hb)
      | (go_at_call 28; (with_reducible refine (HP.out _).mono ?_); rintro e w3 ⟨rfl, hb⟩; have HB2 := Lib.hid (HB.out.trans (hb.mono HB.out.size)); clear hb))
    go_ret2
    exact ⟨_, _, rfl, .inr ⟨HNo.out, rfl, rfl⟩, HB2.out⟩
set_option maxHeartbeats 4000000 in
theorem first_match {F : Nat → Prop} (A : Option Addr) (n c : Nat) (l : List IV) (T : ByteArray) (at_ : Int) (w : World) (hi0 : InsF F w A n l) (hr : rightB n l = true) (hn : n ≤ 1000) (hT : T.size ≤ 1000) :
    Calls Try.prog 16 #[.slice A n c, .string T, .int .i64 at_] w fun e w' => ∃ x y ok, e = .returned (.tuple #[.agg #[.int .i64 x, .int .i64 y], .bool ok]) ∧ FirstV (l.map fun v => v.i) (nums T) at_ (x, y) ok ∧ Below w.heap.size w w' := by
  have hnl := nums_length T
  have hb0 : Below w.heap.size w (w.alloc (.cells #[.int .i64 0, .int .i64 0] 35)) := (Below.refl _ _).alloc (Nat.le_refl _) _
  have HR := Lib.hid (right_any A n c l _ (hi0.insAt.below hb0) (by omega))
  rw [hr] at HR
  have HI := Lib.hid (And.intro (hi0.mono (F' := fun b => b < w.heap.size) fun b _ h => h) hr)
  have HP := Lib.hid fun a w => isPlace_any T a w (by omega)
  have HB0 := Lib.hid hb0
  have HN := Lib.hid hnl
  clear hi0 hr hb0
  by_cases hlong : (T.size : Int) < at_
  · have hm : max at_ 0 = at_ := by omega
    clear hnl
    go_enter Try.func16, Try.ntmps16
    go_wp2_with (go_at_call 27; (with_reducible refine HR.out.mono ?_); rintro e w2 ⟨rfl, hb⟩; have HB := Lib.hid (And.intro (HB0.out.trans (hb.mono (by simp))) (hit_box hb)); obtain ⟨x0, x1, y0, y1⟩ := box_two (hit_box hb); clear hb)
    have hset := box_put (x' := .int .i64 0) (y' := .int .i64 0) HB.out.2
    have hbf := (HB.out.1.setCell (p := ⟨w.heap.size, 0, none⟩) (Nat.le_refl _) (.int .i64 0)).setCell (p := ⟨w.heap.size, 1, none⟩) (Nat.le_refl _) (.int .i64 0)
    obtain ⟨z0, z1, _, _⟩ := box_two hset
    generalize (w2.setCell ⟨w.heap.size, 0, none⟩ (.int .i64 0)).setCell ⟨w.heap.size, 1, none⟩ (.int .i64 0) = wf at hset z0 z1 hbf ⊢
    clear x0 x1 y0 y1 hset
    refine bodyPost_ret (v := .tuple #[.agg #[.int .i64 0, .int .i64 0], .bool false]) ?_ rfl ⟨0, 0, false, rfl, ⟨none, .inr ⟨by have := HN.out; omega, rfl⟩, rfl, rfl⟩, hbf⟩
    rw [results_cell_tmp rfl]; go_simp
  · obtain ⟨k, hk⟩ := placeFrom_some (T := nums T) (a := at_) (by omega)
    obtain ⟨m, hm⟩ : ∃ m : Nat, max at_ 0 = (m : Int) := ⟨(max at_ 0).toNat, by omega⟩
    have hmk : m ≤ atF (nums T) k ∧ at_ ≤ (m : Int) := by have := hk.2.2; omega
    have hkm := atF_max (T := nums T) hk.1
    have hmT : ¬ T.size < m := by omega
    have hmT2 : decide (T.size < m) = false := decide_eq_false hmT
    have hFi := fun w2 (hb : Below w.heap.size w w2) => first_any A n c l T w2 (HI.out.1.belowB hb) HI.out.2 hn hT k (rsT (nums T)).length hk.1 (Nat.le_refl _)
    rw [atF_last, hnl] at hFi
    have HFi := Lib.hid hFi
    have HK := Lib.hid (And.intro hk (And.intro hmk hkm))
    clear hk hmk hkm hnl hlong hFi
    go_enter Try.func16, Try.ntmps16
    go_wp2_with (go_at_call 27; (with_reducible refine HR.out.mono ?_); rintro e w2 ⟨rfl, hb⟩; have HB := Lib.hid (And.intro (HB0.out.trans (hb.mono (by simp))) (hit_box hb)); clear hb)
    go_loopw [2] (fun v2 wr => ∃ f : Nat, v2 = .int .i64 (f : Int) ∧ f ≤ T.size ∧ Hid (f ≤ atF (nums T) k ∧ at_ ≤ (f : Int) ∧ Below w.heap.size w wr ∧ wr.heap[w.heap.size]? = some (.cells #[.int .i64 0, .int .i64 0] 35 (0, 0)))) (fun v2 _ => T.size - (intOf v2).toNat)
    case atStart => exact ⟨m, rfl, by omega, Lib.hid ⟨HK.out.2.1.1, HK.out.2.1.2, HB.out.1, HB.out.2⟩⟩
    case round =>
      obtain ⟨f, rfl, hfT, H⟩ := hrel
      by_cases hp : plB (nums T) (f : Int) = true
      · have hfk : f = atF (nums T) k := by
          obtain ⟨h0, j, hj⟩ := plB_iff.1 hp
          rw [Int.toNat_natCast] at hj
          obtain ⟨h1, h2⟩ := atF_of hj
          obtain ⟨⟨k1, k2, k3⟩, _⟩ := HK.out
          have hf := H.out
          rcases Nat.lt_trichotomy j k with h3 | h3 | h3
          · have := k2 j h3; omega
          · subst h3; exact h1.symm
          · have := atF_lt (T := nums T) h2 h3; omega
        have HPf := Lib.hid (HP.out (f : Int) wr)
        rw [hp] at HPf
        rw [← hfk] at HFi
        have HKF := Lib.hid hfk
        clear hp hfk
        go_wp2_with (first
          | (go_at_call 28; (with_reducible refine HPf.out.mono ?_); rintro e w3 ⟨rfl, hb⟩; have HB2 := Lib.hid (And.intro (H.out.2.2.1.trans (hb.mono H.out.2.2.1.size)) ((hb.block _ (Array.getElem?_eq_some_iff.1 H.out.2.2.2).1).trans H.out.2.2.2)); clear hb)
          | (go_at_call 29; (with_reducible refine (HFi.out _ HB2.out.1).mono ?_); rintro e w4 ⟨o, rfl, hf, hb⟩; have hbx := (hb.block w.heap.size (Array.getElem?_eq_some_iff.1 HB2.out.2).1).trans HB2.out.2; have HO := Lib.hid (And.intro hf (And.intro (HB2.out.1.trans (hb.mono HB2.out.1.size)) hbx)); obtain ⟨x0, x1, y0, y1⟩ := box_two hbx; clear hf hb hbx))
        have hset := box_put (x' := .int .i64 (hitF (nums T) o).1) (y' := .int .i64 (hitF (nums T) o).2) HO.out.2.2
        have hbf := (HO.out.2.1.setCell (p := ⟨w.heap.size, 0, none⟩) (Nat.le_refl _) (.int .i64 (hitF (nums T) o).1)).setCell (p := ⟨w.heap.size, 1, none⟩) (Nat.le_refl _) (.int .i64 (hitF (nums T) o).2)
        obtain ⟨z0, z1, _, _⟩ := box_two hset
        generalize (w4.setCell ⟨w.heap.size, 0, none⟩ (.int .i64 (hitF (nums T) o).1)).setCell ⟨w.heap.size, 1, none⟩ (.int .i64 (hitF (nums T) o).2) = wf at hset z0 z1 hbf ⊢
        clear x0 x1 y0 y1 hset
        refine bodyPost_ret (v := .tuple #[.agg #[.int .i64 (hitF (nums T) o).1, .int .i64 (hitF (nums T) o).2], .bool o.isSome]) ?_ rfl ⟨_, _, _, rfl, ⟨o, .inl ⟨k, HK.out.1, HO.out.1⟩, rfl, rfl⟩, hbf⟩
        rw [results_cell_tmp rfl]; go_simp
      · have hne : f ≠ atF (nums T) k := fun e => hp (plB_iff.2 ⟨by omega, k, by rw [Int.toNat_natCast, e]; exact atF_at HK.out.1.1⟩)
        have HPf := Lib.hid (HP.out (f : Int) wr)
        rw [show plB (nums T) (f : Int) = false by simpa using hp] at HPf
        have HNE := Lib.hid hne
        clear hp hne
        have hT1 : (f : Int) ≤ 1000 := by omega
        go_wp2_with (go_at_call 28; (with_reducible refine HPf.out.mono ?_); rintro e w3 ⟨rfl, hb⟩; have HB2 := Lib.hid (And.intro (H.out.2.2.1.trans (hb.mono H.out.2.2.1.size)) ((hb.block _ (Array.getElem?_eq_some_iff.1 H.out.2.2.2).1).trans H.out.2.2.2)); clear hb)
        have h1 := HNE.out
        have h2 := H.out.1
        have h3 := HK.out.2.2
        have h4 := HN.out
        refine ⟨⟨f + 1, rfl, by omega, Lib.hid ⟨by omega, by have := H.out.2.1; omega, HB2.out.1, HB2.out.2⟩⟩, by simp [intOf]; omega⟩
end Go.Proofs.Ytegcebgoiocakaa
