/- New, Write, Close, Kind, and Text; the contract of layer 3's awake. -/
import Derived.Test.YtoojfjealncddaaDoorDecoder
import Derived.Test.YtoojfjealncddaaDoorROctets
import Derived.Lib.SlBytesConst
namespace Go.Proofs.YtoojfjealncddaaDoor
open Go Go.RowKit
set_option linter.unusedVariables false

theorem new_ok (k : Int) (w : World) (h0 : 0 ≤ k) (h3 : k ≤ 3) :
    Calls Tryd.prog 12 #[.int .i64 k] w fun e w' => e = .returned (.tuple #[.pointer (some ⟨w.heap.size, 0, none⟩), .int .i64 0]) ∧ Dec w' w.heap.size k false [] ∧ Below w.heap.size w w' := by
  have d0 : decide (k < 0) = false := by simp; omega
  have d3 : decide (3 < k) = false := by simp; omega
  go_enter Tryd.func12, Tryd.ntmps12
  go_wp2_with fail
  go_ret2
  exact ⟨rfl, ⟨.slice none 0 0, heap_alloc_new w _, World.ownsRow_nil _ _ _ _, by simp, h0, h3⟩, by go_grown⟩
theorem new_no (k : Int) (w : World) (h : k < 0 ∨ 3 < k) :
    Calls Tryd.prog 12 #[.int .i64 k] w fun e w' => e = .returned (.tuple #[.pointer none, .int .i64 2]) ∧ w' = w := by
  have d : (decide (k < 0) || decide (3 < k)) = true := by simp; omega
  by_cases h0 : k < 0
  · have d0 : decide (k < 0) = true := by simp; omega
    clear d h
    go_enter Tryd.func12, Tryd.ntmps12
    go_wp2_with fail
    go_ret2
    exact ⟨rfl, rfl⟩
  · have d0 : decide (k < 0) = false := by simp; omega
    have d3 : decide (3 < k) = true := by simp; omega
    clear d h h0
    go_enter Tryd.func12, Tryd.ntmps12
    go_wp2_with fail
    go_ret2
    exact ⟨rfl, rfl⟩

theorem kind_any (g : Nat) (k : Int) (cl : Bool) (xs : List Int) (w : World) (hd : Dec w g k cl xs) :
    Calls Tryd.prog 16 #[.pointer (some ⟨g, 0, none⟩)] w fun e w' => e = .returned (.int .i64 k) ∧ w' = w := by
  obtain ⟨v, hda, _⟩ := hd
  have d0 := hda.c0
  go_enter Tryd.func16, Tryd.ntmps16
  go_wp2_with fail
  go_ret
  exact ⟨rfl, rfl⟩

set_option maxHeartbeats 1000000 in
/-- WHAT Close DOES. -/
theorem close_any (g : Nat) (k : Int) (cl : Bool) (xs : List Int) (w : World) (hm : Marks w) (hg0 : 0 < g) (hd : Dec w g k cl xs) (hx : xs.length ≤ 2000) :
    Calls Tryd.prog 17 #[.pointer (some ⟨g, 0, none⟩)] w fun e w' => ∃ k' out rest, e = .returned (.string (strOfNums out)) ∧ TellR k true xs k' out rest ∧ Dec w' g k' true rest ∧ Below g w w' := by
  obtain ⟨v, hda, hown, hby, hk0, hk3⟩ := hd
  have d2 := hda.c2
  have f2 := hda.fz 2
  have hb1 : Below g w (w.setCell ⟨g, 2, none⟩ (.bool true)) := (Below.refl _ _).setCell (p := ⟨g, 2, none⟩) (Nat.le_refl _) _
  have ht := tell_any g k true xs (w.setCell ⟨g, 2, none⟩ (.bool true)) (hm.kept hg0 hb1) ⟨v, hda.set2 true, ownsRow_setCell_below hown (a := ⟨g, 2, none⟩) (by simp) _, hby, hk0, hk3⟩ hx
  have HT := Lib.hid ht; clear ht
  clear hm hda hown hby hk0 hk3 hx
  go_enter Tryd.func17, Tryd.ntmps17
  go_wp2_with fail
  refine HT.out.mono ?_; rintro e w' ⟨k', out, rest, rfl, q1, q2, q3⟩
  have Q1 := Lib.hid q1; clear q1
  have Q2 := Lib.hid q2; clear q2
  go_wp2_with fail
  go_ret
  exact ⟨k', out, rest, rfl, Q1.out, Q2.out, hb1.trans q3⟩

set_option maxHeartbeats 1000000 in
/-- WHAT Write DOES, as long as it isn't closed. -/
theorem write_any (g : Nat) (k : Int) (xs : List Int) (A : Option Addr) (n c : Nat) (ys : List Int) (w : World) (hm : Marks w) (hg0 : 0 < g) (hd : Dec w g k false xs) (hr : RowI .u8 w A n ys) (hnil : A = none → n = 0 ∧ c = 0) (hyb : ∀ c ∈ ys, 0 ≤ c ∧ c < 256) (hx : xs.length + n ≤ 2000) :
    Calls Tryd.prog 13 #[.pointer (some ⟨g, 0, none⟩), .slice A n c] w fun e w' => ∃ k' out rest, e = .returned (.string (strOfNums out)) ∧ TellR k false (xs ++ ys) k' out rest ∧ Dec w' g k' false rest ∧ Below g w w' := by
  obtain ⟨v, hda, hown, hby, hk0, hk3⟩ := hd
  have hgl := hda.lt
  have hyl := hr.1
  have d1 := hda.c1
  have d2 := hda.c2
  have f1 := hda.fz 1
  obtain ⟨v', w1, happ, hown1, hgrow1⟩ := app_run .u8 22 5 1 Tryd.underlying22 info_u8 w (g + 1) v xs.length xs hown A n c ys hr hnil (by omega) (by unfold maxLen; omega) (by omega)
  have hb1 : Below (g + 1) w w1 := (Below.refl _ _).grown hgrow1 (by omega) (by intro j hj; exact (hown.lt j hj).1)
  rw [show xs.length + n = (xs ++ ys).length by rw [List.length_append, hyl]] at hown1
  have hd1 := hda.below hb1 (Nat.lt_succ_self g)
  obtain ⟨A', c', rfl, _⟩ := own_shape hown1
  have k1 := hd1.c1
  have g1 := hd1.fz 1
  have hb2 : Below g w (w1.setCell ⟨g, 1, none⟩ (.slice A' (xs ++ ys).length c')) := (Below.mono hb1 (Nat.le_succ g)).setCell (p := ⟨g, 1, none⟩) (Nat.le_refl _) _
  have ht := tell_any g k false (xs ++ ys) (w1.setCell ⟨g, 1, none⟩ (.slice A' (xs ++ ys).length c')) (hm.kept hg0 hb2) ⟨_, hd1.set1 _, ownsRow_setCell_below hown1 (a := ⟨g, 1, none⟩) (by simp) _, (fun c hc => by
    rcases List.mem_append.1 hc with h | h
    · exact hby c h
    · exact hyb c h), hk0, hk3⟩ (by rw [List.length_append]; omega)
  obtain ⟨zs, hzs⟩ : ∃ zs, zs = xs ++ ys := ⟨_, rfl⟩
  rw [← hzs] at ht happ hb2 ⊢
  have HT := Lib.hid ht; clear ht
  have HAPP := Lib.hid happ; clear happ
  clear hm hda hd1 hown hown1 hgrow1 hby hyb hk0 hk3 hx hzs hr hb1
  go_enter Tryd.func13, Tryd.ntmps13
  go_wp2_with (at_builtin; refine wpList_append_run rfl _ _ 22 rfl rfl _ _ _ _ rfl rfl HAPP.out ?_)
  refine HT.out.mono ?_; rintro e w' ⟨k', out, rest, rfl, q1, q2, q3⟩
  have Q1 := Lib.hid q1; clear q1
  have Q2 := Lib.hid q2; clear q2
  go_wp2_with fail
  go_ret
  exact ⟨k', out, rest, rfl, Q1.out, Q2.out, hb2.trans q3⟩

theorem text_no (k : Int) (A : Option Addr) (n c : Nat) (w : World) (h : k < 0 ∨ 3 < k) :
    Calls Tryd.prog 8 #[.int .i64 k, .slice A n c] w fun e w' => e = .returned (.string (strOfNums [])) ∧ w' = w := by
  have hn := fun w => new_no k w h
  have HN := Lib.hid hn; clear hn
  go_enter Tryd.func8, Tryd.ntmps8
  go_wp2_with fail
  refine (HN.out _).mono ?_; rintro e w' ⟨rfl, rfl⟩
  go_wp2_with fail
  go_ret
  exact ⟨rfl, rfl⟩

set_option maxHeartbeats 1000000 in
theorem text_ok (k : Int) (A : Option Addr) (n c : Nat) (xs : List Int) (w : World) (hm : Marks w) (hr : RowI .u8 w A n xs) (hnil : A = none → n = 0 ∧ c = 0) (hby : ∀ c ∈ xs, 0 ≤ c ∧ c < 256) (hx : n ≤ 2000) (h0 : 0 ≤ k) (h3 : k ≤ 3) :
    Calls Tryd.prog 8 #[.int .i64 k, .slice A n c] w fun e w' => ∃ out, e = .returned (.string (strOfNums out)) ∧ TextR k xs out ∧ Below w.heap.size w w' := by
  have hxl := hr.1
  have hn := new_ok k w h0 h3
  have hw := fun (w1 : World) (hd : Dec w1 w.heap.size k false []) (hb : Below w.heap.size w w1) => write_any w.heap.size k [] A n c xs w1 (hm.below hb (Nat.le_refl _)) hm.1 hd (hr.below hb (Nat.le_refl _)) hnil hby (by simp; omega)
  have hc := fun (w2 : World) (k' : Int) (rest : List Int) (hd : Dec w2 w.heap.size k' false rest) (hb : Below w.heap.size w w2) (hle : rest.length ≤ 2000) => close_any w.heap.size k' false rest w2 (hm.below hb (Nat.le_refl _)) hm.1 hd hle
  have HN := Lib.hid hn; clear hn
  have HW := Lib.hid hw; clear hw
  have HC := Lib.hid hc; clear hc
  have HXL := Lib.hid hxl; clear hxl
  clear hm hr hnil hby
  go_enter Tryd.func8, Tryd.ntmps8
  go_wp2_with fail
  refine HN.out.mono ?_; rintro e w1 ⟨rfl, hd1, hb1⟩
  have HD1 := Lib.hid hd1; clear hd1
  go_wp2_with fail
  refine (HW.out w1 HD1.out hb1).mono ?_; rintro e w2 ⟨k', out, rest, rfl, q1, q2, q3⟩
  have hb2 := hb1.trans q3
  rw [List.nil_append] at q1
  have hsz := q1.size h0 h3
  have hk' := q1.kind h0 h3
  have Q1 := Lib.hid q1; clear q1
  have Q2 := Lib.hid q2; clear q2
  have hle : rest.length ≤ 2000 := by have := HXL.out; omega
  have hol : out.length ≤ 8000 := by have := HXL.out; omega
  clear hsz q3
  go_wp2_with fail
  refine (HC.out w2 k' rest Q2.out hb2 hle).mono ?_; rintro e w3 ⟨k2, out2, rest2, rfl, p1, p2, p3⟩
  have hb3 := hb2.trans p3
  have hsz2 := p1.size hk'.1 hk'.2
  have P1 := Lib.hid p1; clear p1
  have P2 := Lib.hid p2; clear p2
  have hcat : ¬ 9223372036854775807 < (strOfNums out).size + (strOfNums out2).size := by rw [strOfNums_size, strOfNums_size]; omega
  clear hsz2 p3
  go_wp2_with fail
  go_ret
  exact ⟨out ++ out2, by rw [str_append]; rfl, Q1.out.text P1.out h0 h3, hb3⟩

/-- WHAT Text GIVES. -/
theorem text_any (k : Int) (A : Option Addr) (n c : Nat) (xs : List Int) (w : World) (hm : Marks w) (hr : RowI .u8 w A n xs) (hnil : A = none → n = 0 ∧ c = 0) (hby : ∀ c ∈ xs, 0 ≤ c ∧ c < 256) (hx : n ≤ 2000) :
    Calls Tryd.prog 8 #[.int .i64 k, .slice A n c] w fun e w' => ∃ out, e = .returned (.string (strOfNums out)) ∧ TextR k xs out ∧ Below w.heap.size w w' := by
  by_cases h : k < 0 ∨ 3 < k
  · exact (text_no k A n c w h).mono fun e w' ⟨he, hw⟩ => ⟨[], he, .inr (.inr ⟨h, rfl⟩), by rw [hw]; exact Below.refl _ _⟩
  · exact text_ok k A n c xs w hm hr hnil hby hx (by omega) (by omega)

theorem tell_first {k' : Int} {out rest : List Int} (h : TellR 0 false [226, 130] k' out rest) : k' = 1 ∧ out = [] ∧ rest = [226, 130] := by
  rcases h with ⟨_, _, h, _⟩ | ⟨_, _, h1, h⟩ | ⟨h, _⟩
  · exact absurd h (by decide)
  · have hk : k' = 1 := by rw [h1]; decide
    subst hk
    rw [show ([226, 130] : List Int).drop (markI [226, 130]).2.toNat = [226, 130] by decide] at h
    obtain ⟨h2, h3⟩ := h.one (Pour.stop (by decide))
    exact ⟨rfl, h2, h3⟩
  · exact absurd rfl h
theorem tell_then {k' : Int} {out rest : List Int} (h : TellR 1 false [226, 130, 172, 65] k' out rest) : k' = 1 ∧ out = [226, 130, 172, 65] := by
  rcases h with ⟨h, _⟩ | ⟨h, _⟩ | ⟨_, h1, h⟩
  · cases h
  · cases h
  · have hp : Pour 1 false [226, 130, 172, 65] (putI (sndI (stepI 1 false [226, 130, 172, 65]).1) ++ (putI (sndI (stepI 1 false [65]).1) ++ [])) [] :=
      Pour.go (by decide) (Pour.go (xs := [65]) (by decide) (Pour.stop (xs := []) (by decide)))
    exact ⟨h1, (h.one hp).1.trans (by decide)⟩

theorem RowI.newM (k : IntKind) (w : World) (xs : List Int) (t : TypeId) (fr : Nat × Nat) : RowI k (w.alloc (.cells (xs.map (Value.int k)).toArray t fr)) (some ⟨w.heap.size, 0, none⟩) xs.length xs := by
  refine ⟨rfl, fun _ => ⟨_, _, rfl, by simp, fun j hj => ?_⟩⟩
  rw [Nat.zero_add]
  refine (World.cell?_alloc_mark w _ _ _ j).trans ?_
  simp [List.getElem?_eq_getElem hj]

set_option maxHeartbeats 1000000 in
theorem awake3_any (w : World) (hm : Marks w) : Calls Tryd.prog 7 #[] w fun e w' => e = .returned (.bool true) ∧ Below w.heap.size w w' := by
  have hn := new_ok 0 w (by decide) (by decide)
  have hw1 : ∀ w1 : World, Dec w1 w.heap.size 0 false [] → Below w.heap.size w w1 → Calls Tryd.prog 13 #[.pointer (some ⟨w.heap.size, 0, none⟩), .slice (some ⟨w1.heap.size, 0, none⟩) 2 2] (w1.alloc (.cells #[.int .u8 226, .int .u8 130] 5 (2, 3))) fun e w' =>
      e = .returned (.string ⟨#[]⟩) ∧ Dec w' w.heap.size 1 false [226, 130] ∧ Below w.heap.size w w' := by
    intro w1 hd hb
    obtain ⟨v, hda, hown, hr⟩ := hd
    have hb1 : Below w.heap.size w (w1.alloc (.cells #[.int .u8 226, .int .u8 130] 5 (2, 3))) := hb.alloc hb.size _
    have hq := write_any w.heap.size 0 [] (some ⟨w1.heap.size, 0, none⟩) 2 2 [226, 130] (w1.alloc (.cells #[.int .u8 226, .int .u8 130] 5 (2, 3))) (hm.below hb1 (Nat.le_refl _)) hm.1
      ⟨v, hda.below ((Below.refl w1.heap.size w1).alloc (Nat.le_refl _) _) hda.lt, own_below hown ((Below.refl w1.heap.size w1).alloc (Nat.le_refl _) _), hr⟩ (RowI.newM .u8 w1 [226, 130] 5 (2, 3)) (fun h => by cases h) (by decide) (by decide)
    refine hq.mono ?_
    rintro e w' ⟨k', out, rest, he, ht, hd, hb2⟩
    obtain ⟨rfl, rfl, rfl⟩ := tell_first ht
    exact ⟨he, hd, hb1.trans hb2⟩
  have hw2 : ∀ w1 : World, Dec w1 w.heap.size 1 false [226, 130] → Below w.heap.size w w1 → Calls Tryd.prog 13 #[.pointer (some ⟨w.heap.size, 0, none⟩), .slice (some ⟨w1.heap.size, 0, none⟩) 2 2] (w1.alloc (.cells #[.int .u8 172, .int .u8 65] 5 (2, 3))) fun e w' =>
      e = .returned (.string ⟨#[226, 130, 172, 65]⟩) ∧ Below w.heap.size w w' := by
    intro w1 hd hb
    obtain ⟨v, hda, hown, hr⟩ := hd
    have hb1 : Below w.heap.size w (w1.alloc (.cells #[.int .u8 172, .int .u8 65] 5 (2, 3))) := hb.alloc hb.size _
    have hq := write_any w.heap.size 1 [226, 130] (some ⟨w1.heap.size, 0, none⟩) 2 2 [172, 65] (w1.alloc (.cells #[.int .u8 172, .int .u8 65] 5 (2, 3))) (hm.below hb1 (Nat.le_refl _)) hm.1
      ⟨v, hda.below ((Below.refl w1.heap.size w1).alloc (Nat.le_refl _) _) hda.lt, own_below hown ((Below.refl w1.heap.size w1).alloc (Nat.le_refl _) _), hr⟩ (RowI.newM .u8 w1 [172, 65] 5 (2, 3)) (fun h => by cases h) (by decide) (by decide)
    refine hq.mono ?_
    rintro e w' ⟨k', out, rest, he, ht, hd, hb2⟩
    obtain ⟨_, rfl⟩ := tell_then ht
    exact ⟨he, hb1.trans hb2⟩
  have kc := fun (w : World) (C : Array Value) (n c : Nat) => Lib.run_convert_bytes_const (P := Tryd.prog) w 22 5 C n c Tryd.underlying22 Tryd.underlying5
  have HN := Lib.hid hn; clear hn
  have HW1 := Lib.hid hw1; clear hw1
  have HW2 := Lib.hid hw2; clear hw2
  clear hm
  go_enter Tryd.func7, Tryd.ntmps7
  go_wp2_with fail
  refine HN.out.mono ?_; rintro e w1 ⟨rfl, hd1, hb1⟩
  have HD1 := Lib.hid hd1; clear hd1
  go_wp2_with fail
  refine (HW1.out w1 HD1.out hb1).mono ?_; rintro e w2 ⟨rfl, hd2, hb2⟩
  have HD2 := Lib.hid hd2; clear hd2
  go_wp2_with fail
  refine (HW2.out w2 HD2.out hb2).mono ?_; rintro e w3 ⟨rfl, hb3⟩
  go_wp2_with fail
  go_ret
  exact ⟨rfl, hb3⟩
end Go.Proofs.YtoojfjealncddaaDoor
