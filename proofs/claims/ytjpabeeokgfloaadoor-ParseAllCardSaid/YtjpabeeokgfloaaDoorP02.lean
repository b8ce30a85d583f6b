/- The program's Named. -/
import Derived.Test.YtjpabeeokgfloaaDoorN05
import Derived.Test.YtjpabeeokgfloaaDoorN07
import Derived.Test.YtjpabeeokgfloaaDoorP01
import Derived.KernelRfl
namespace Go.Proofs.YtjpabeeokgfloaaDoor
open Go Go.RowKit
set_option linter.unusedVariables false
set_option maxRecDepth 20000
set_option linter.unusedSimpArgs false

/-- A letter's ranges. -/
def letterL (c : Int) : List (Int × Int) := if c = 119 then [(65, 90), (97, 122), (95, 95)] ++ [(48, 57)] else if c = 100 then [(48, 57)] else [(32, 32), (9, 13)]
theorem rowG_own {w : World} {B : Nat} {P : Option Addr} {q pc : Nat} {s : List (Int × Int)} (h : w.ownsRow B 62 2 (.slice P q pc) q (cellsG s)) : RowG w P q s := by
  obtain ⟨A', c', e, h, _⟩ := rowG_of_own h (by have := h.1; rw [cellsG_length] at this; omega)
  injection e with e1 _ _
  rw [e1]
  exact h

set_option maxHeartbeats 2000000 in
theorem named_small (c : Int) (hc : c = 119 ∨ c = 100 ∨ c = 115) (W : World) :
    Calls Tryd.prog 67 #[.int .u8 c] W fun e w' => ∃ V t, e = .returned (.tuple #[V, .bool true]) ∧ OutG W w' V t ∧ Canon t ∧ ∀ r, hasL t r = hasL (letterL c) r := by
  rcases hc with rfl | rfl | rfl
  · obtain ⟨P1, pc1, w1, ha1, ho1, hb1⟩ := push_rngs (nilG W W.heap.size) [(65, 90), (97, 122), (95, 95)] (by simp) (by simp) (Below.refl _ _)
    simp only [List.length_cons, List.length_nil, Nat.zero_add, Nat.reduceAdd, List.nil_append] at ha1 ho1
    obtain ⟨P2, pc2, w2, ha2, ho2, hb2⟩ := push_rngs ho1 [(48, 57)] (by simp) (by simp) hb1
    simp only [List.length_cons, List.length_nil, Nat.zero_add, Nat.reduceAdd, List.nil_append] at ha2 ho2
    have HF := Lib.hid (of_any _ _ _ pc2 _ (rowG_own ho2) (by simp))
    have HA1 := Lib.hid ha1
    have HA2 := Lib.hid ha2
    have HB := Lib.hid hb2
    clear ha1 ho1 hb1 ha2 ho2 hb2
    go_enter Tryd.func67, Tryd.ntmps67
    go_wp2_with (first
      | (at_builtin; refine wpList_append_run rfl _ _ 23 rfl rfl _ _ _ _ rfl rfl HA1.out ?_)
      | (at_builtin; refine wpList_append_run rfl _ _ 23 rfl rfl _ _ _ _ rfl rfl HA2.out ?_)
      | (go_at_call 63; refine HF.out.mono ?_; rintro e w3 ⟨V, t, rfl, ho, hcan, hmem⟩; have HO := Lib.hid (And.intro ho (And.intro hcan hmem)); clear ho hcan hmem))
    go_ret2
    exact ⟨V, t, rfl, ⟨row_base HO.out.1.1 (fun j hj => Nat.le_trans HB.out.size (row_lt HO.out.1.1 hj).1), then_ HB.out HO.out.1.2⟩, HO.out.2.1, fun r => HO.out.2.2 r⟩
  · obtain ⟨P1, pc1, w1, ha1, ho1, hb1⟩ := push_rngs (nilG W W.heap.size) [(48, 57)] (by simp) (by simp) (Below.refl _ _)
    simp only [List.length_cons, List.length_nil, Nat.zero_add, Nat.reduceAdd, List.nil_append] at ha1 ho1
    have HF := Lib.hid (of_any _ _ _ pc1 _ (rowG_own ho1) (by simp))
    have HA1 := Lib.hid ha1
    have HB := Lib.hid hb1
    clear ha1 ho1 hb1
    go_enter Tryd.func67, Tryd.ntmps67
    go_wp2_with (first
      | (at_builtin; refine wpList_append_run rfl _ _ 23 rfl rfl _ _ _ _ rfl rfl HA1.out ?_)
      | (go_at_call 63; refine HF.out.mono ?_; rintro e w3 ⟨V, t, rfl, ho, hcan, hmem⟩; have HO := Lib.hid (And.intro ho (And.intro hcan hmem)); clear ho hcan hmem))
    go_ret2
    exact ⟨V, t, rfl, ⟨row_base HO.out.1.1 (fun j hj => Nat.le_trans HB.out.size (row_lt HO.out.1.1 hj).1), then_ HB.out HO.out.1.2⟩, HO.out.2.1, fun r => HO.out.2.2 r⟩
  · obtain ⟨P1, pc1, w1, ha1, ho1, hb1⟩ := push_rngs (nilG W W.heap.size) [(32, 32), (9, 13)] (by simp) (by simp) (Below.refl _ _)
    simp only [List.length_cons, List.length_nil, Nat.zero_add, Nat.reduceAdd, List.nil_append] at ha1 ho1
    have HF := Lib.hid (of_any _ _ _ pc1 _ (rowG_own ho1) (by simp))
    have HA1 := Lib.hid ha1
    have HB := Lib.hid hb1
    clear ha1 ho1 hb1
    go_enter Tryd.func67, Tryd.ntmps67
    go_wp2_with (first
      | (at_builtin; refine wpList_append_run rfl _ _ 23 rfl rfl _ _ _ _ rfl rfl HA1.out ?_)
      | (go_at_call 63; refine HF.out.mono ?_; rintro e w3 ⟨V, t, rfl, ho, hcan, hmem⟩; have HO := Lib.hid (And.intro ho (And.intro hcan hmem)); clear ho hcan hmem))
    go_ret2
    exact ⟨V, t, rfl, ⟨row_base HO.out.1.1 (fun j hj => Nat.le_trans HB.out.size (row_lt HO.out.1.1 hj).1), then_ HB.out HO.out.1.2⟩, HO.out.2.1, fun r => HO.out.2.2 r⟩

set_option maxHeartbeats 2000000 in
theorem named_big (c d : Int) (hc : c = 87 ∧ d = 119 ∨ c = 68 ∧ d = 100 ∨ c = 83 ∧ d = 115) (W : World) :
    Calls Tryd.prog 67 #[.int .u8 c] W fun e w' => ∃ V t, e = .returned (.tuple #[V, .bool true]) ∧ OutG W w' V t ∧ Canon t ∧ ∀ r, hasL t r = (inR r && !hasL (letterL d) r) := by
  have hs := named_small d (by omega) W
  rcases hc with ⟨rfl, rfl⟩ | ⟨rfl, rfl⟩ | ⟨rfl, rfl⟩
  all_goals
    have HS := Lib.hid hs
    clear hs
    go_enter Tryd.func67, Tryd.ntmps67
    go_wp2_with (first
      | (go_at_call 67; refine HS.out.mono ?_; rintro e w1 ⟨V1, u, rfl, ho, hcan, hmem⟩; obtain ⟨A1, c1, rfl, hi, hsm⟩ := canon_out ho hcan; have HM := Lib.hid (And.intro ho.2 hmem); have HN := Lib.hid (not_any u A1 u.length c1 w1 hi.1 (by omega)); clear ho hcan hmem hi)
      | (go_at_call 59; refine HN.out.mono ?_; rintro e w2 ⟨V, t, rfl, ho, hcan, hmem⟩; have HO := Lib.hid (And.intro ho (And.intro hcan hmem)); clear ho hcan hmem))
    go_ret2
    exact ⟨V, t, rfl, ⟨row_base HO.out.1.1 (fun j hj => Nat.le_trans HM.out.1.size (row_lt HO.out.1.1 hj).1), then_ HM.out.1 HO.out.1.2⟩, HO.out.2.1, fun r => by rw [HO.out.2.2 r, HM.out.2 r]⟩

theorem named_other (c : Int) (h0 : 0 ≤ c) (h1 : c < 256) (h2 : c ≠ 119 ∧ c ≠ 100 ∧ c ≠ 115 ∧ c ≠ 87 ∧ c ≠ 68 ∧ c ≠ 83) (W : World) :
    Calls Tryd.prog 67 #[.int .u8 c] W fun e w' => e = .returned (.tuple #[.slice none 0 0, .bool false]) ∧ W = w' := by
  obtain ⟨n1, n2, n3, n4, n5, n6⟩ := h2
  go_enter Tryd.func67, Tryd.ntmps67
  go_wp2
  go_ret2
  exact ⟨rfl, rfl⟩

theorem letter_word (r : Int) : hasL (letterL 119) r = (inR r && wordL r) := by
  unfold letterL inR wordL digitL
  rw [if_pos rfl, hasL_append]
  simp only [hasL_cons, hasL_nil, Bool.or_false, Bool.beq_eq_decide_eq, ← Bool.decide_or, ← Bool.decide_and]
  apply decide_eq_decide.2
  omega
theorem letter_digit (r : Int) : hasL (letterL 100) r = (inR r && digitL r) := by
  unfold letterL inR digitL
  rw [if_neg (by decide), if_pos rfl]
  simp only [hasL_cons, hasL_nil, Bool.or_false, ← Bool.decide_or, ← Bool.decide_and]
  apply decide_eq_decide.2
  omega
theorem letter_space (r : Int) : hasL (letterL 115) r = (inR r && spaceL r) := by
  unfold letterL inR spaceL
  rw [if_neg (by decide), if_neg (by decide)]
  rw [show (r == 32) = decide (r = 32) from rfl]
  simp only [hasL_cons, hasL_nil, Bool.or_false, ← Bool.decide_or, ← Bool.decide_and]
  apply decide_eq_decide.2
  omega

theorem named_any (w : World) (c : Int) (h0 : 0 ≤ c) (h1 : c < 256) :
    Calls Tryd.prog 67 #[.int .u8 c] w fun e w' => ∃ V t, e = .returned (.tuple #[V, .bool (namedL c 0).2]) ∧ OutG w w' V t ∧ Canon t ∧ ((namedL c 0).2 = false → t = []) ∧ ((namedL c 0).2 = true → ∀ r, hasL t r = (inR r && (namedL c r).1)) := by
  by_cases e1 : c = 100
  · subst e1
    exact (named_small 100 (by omega) w).mono fun e w' ⟨V, t, he, ho, hc, hm⟩ => ⟨V, t, he, ho, hc, fun h => (by cases h), fun _ r => (hm r).trans (letter_digit r)⟩
  by_cases e2 : c = 119
  · subst e2
    exact (named_small 119 (by omega) w).mono fun e w' ⟨V, t, he, ho, hc, hm⟩ => ⟨V, t, he, ho, hc, fun h => (by cases h), fun _ r => (hm r).trans (letter_word r)⟩
  by_cases e3 : c = 115
  · subst e3
    exact (named_small 115 (by omega) w).mono fun e w' ⟨V, t, he, ho, hc, hm⟩ => ⟨V, t, he, ho, hc, fun h => (by cases h), fun _ r => (hm r).trans (letter_space r)⟩
  by_cases e4 : c = 68
  · subst e4
    refine (named_big 68 100 (by omega) w).mono fun e w' ⟨V, t, he, ho, hc, hm⟩ => ⟨V, t, he, ho, hc, fun h => (by cases h), fun _ r => (hm r).trans ?_⟩
    rw [letter_digit r, show (namedL 68 r).1 = !digitL r from rfl]
    cases inR r <;> simp
  by_cases e5 : c = 87
  · subst e5
    refine (named_big 87 119 (by omega) w).mono fun e w' ⟨V, t, he, ho, hc, hm⟩ => ⟨V, t, he, ho, hc, fun h => (by cases h), fun _ r => (hm r).trans ?_⟩
    rw [letter_word r, show (namedL 87 r).1 = !wordL r from rfl]
    cases inR r <;> simp
  by_cases e6 : c = 83
  · subst e6
    refine (named_big 83 115 (by omega) w).mono fun e w' ⟨V, t, he, ho, hc, hm⟩ => ⟨V, t, he, ho, hc, fun h => (by cases h), fun _ r => (hm r).trans ?_⟩
    rw [letter_space r, show (namedL 83 r).1 = !spaceL r from rfl]
    cases inR r <;> simp
  have hf : (namedL c 0).2 = false := by
    unfold namedL
    rw [if_neg e1, if_neg e2, if_neg e3, if_neg e4, if_neg e5, if_neg e6]
  rw [hf]
  exact (named_other c h0 h1 ⟨e2, e1, e3, e5, e4, e6⟩ w).mono fun e w' ⟨he, hw⟩ => ⟨_, [], he, by subst hw; exact ⟨nilG _ _, Below.refl _ _⟩, trivial, fun _ => rfl, fun h => (by cases h)⟩
end Go.Proofs.YtjpabeeokgfloaaDoor
/- The document's examples of package parse. -/
namespace Go.Proofs.YtjpabeeokgfloaaDoor
open Go Go.RowKit
set_option linter.unusedVariables false
set_option maxRecDepth 20000

/-- What the program's set answers. -/
theorem facesS : FacesS where
  of w A n c s h hn := of_any s A n c w h (by omega)
  no w A n c s h hn := not_any s A n c w h (by omega)
  named w c h0 h1 := named_any w c h0 h1
  noName c h0 h1 h w := named_other c h0 h1 h w

def awakeT : Wood := .cons 5 [] 0 0 (.cons 1 [(97, 97)] 0 0 .nil (.cons 6 [] 0 (-1) (.cons 1 [(98, 98)] 0 0 .nil .nil) .nil)) .nil
theorem awake_tree : parseT ⟨#[97, 124, 98, 42]⟩ = some awakeT := by kernel_rfl
theorem awake_none : parseT ⟨#[97, 42, 42]⟩ = none := by kernel_rfl
theorem itoa_two {a b : Nat} (ha : 0 < a) (ha2 : a < 10) (hb : b < 10) : Lib.itoa ((10 * a + b : Nat) : Int) = [UInt8.ofNat (48 + a), UInt8.ofNat (48 + b)] := by
  unfold Lib.itoa
  rw [if_neg (by omega)]
  rw [show (((10 * a + b : Nat) : Int)).toNat = 10 * a + b by omega, decDigits_big (by omega), decDigits_small (u := (10 * a + b) / 10) (by omega), decDigits_small (u := (10 * a + b) % 10) (by omega), show (10 * a + b) / 10 = a by omega, show (10 * a + b) % 10 = b by omega]
  rfl
theorem awake_show : oneB awakeT = ⟨#[97, 108, 116, 40, 99, 104, 97, 114, 123, 57, 55, 125, 44, 114, 101, 112, 123, 48, 32, 45, 49, 125, 40, 99, 104, 97, 114, 123, 57, 56, 125, 41, 41]⟩ := by
  have d1 : digB 97 = ⟨#[57, 55]⟩ := by unfold digB; rw [show (97 : Int) = ((10 * 9 + 7 : Nat) : Int) from rfl, itoa_two (by decide) (by decide) (by decide)]; rfl
  have d2 : digB 98 = ⟨#[57, 56]⟩ := by unfold digB; rw [show (98 : Int) = ((10 * 9 + 8 : Nat) : Int) from rfl, itoa_two (by decide) (by decide) (by decide)]; rfl
  have d3 : digB 0 = ⟨#[48]⟩ := by unfold digB Lib.itoa; rw [if_neg (by decide), decDigits_small (by decide)]; rfl
  have d4 : digB (-1) = ⟨#[45, 49]⟩ := by unfold digB Lib.itoa; rw [if_pos (by decide), decDigits_small (by decide)]; rfl
  show nodeB 5 [] 0 0 (joinB (strB [44]) [nodeB 1 [(97, 97)] 0 0 ByteArray.empty, nodeB 6 [] 0 (-1) (joinB (strB [44]) [nodeB 1 [(98, 98)] 0 0 ByteArray.empty])]) = _
  unfold nodeB
  simp only [setB, List.map, joinB, rngB, d1, d2, d3, d4]
  rfl

theorem parse_some {s : ByteArray} {T : Wood} (h : parseT s = some T) (hs : s.size ≤ 200) (w : World) :
    Calls Tryd.prog 6 #[.string s] w fun e w' => ∃ x : NV, e = .returned (.tuple #[x.val, .int .i64 0]) ∧ NodesIn (fun b => w.heap.size ≤ b) w' [x] T ∧ Below w.heap.size w w' := by
  refine (parse_any facesS s w).mono fun e w' hv => ?_
  obtain ⟨hb, ⟨h2, _⟩ | ⟨_, h2, _⟩ | ⟨x, n, _, h2, he, hN⟩⟩ := hv
  · omega
  · rw [h] at h2; cases h2
  · rw [h] at h2
    injection h2 with h2
    subst h2
    exact ⟨x, he, hN, hb⟩
theorem parse_no {s : ByteArray} (h : parseT s = none) (hs : s.size ≤ 200) (w : World) :
    Calls Tryd.prog 6 #[.string s] w fun e w' => e = .returned (.tuple #[zeroNV.val, .int .i64 15]) ∧ Below w.heap.size w w' := by
  refine (parse_any facesS s w).mono fun e w' hv => ?_
  obtain ⟨hb, ⟨h2, _⟩ | ⟨_, _, he⟩ | ⟨x, n, _, h2, he, hN⟩⟩ := hv
  · omega
  · exact ⟨he, hb⟩
  · rw [h] at h2; cases h2
theorem NodesIn.below {F : Nat → Prop} {w w' : World} {xs : List NV} {T : Wood} (h : NodesIn F w xs T) (hb : Below w.heap.size w w') : NodesIn F w' xs T := h.move hb.size fun b hF hlt => ⟨hF, hb.block b hlt⟩
theorem NodesIn.one' {F : Nat → Prop} {w : World} {x : NV} {T : Wood} (h : NodesIn F w [x] T) : NodeIn F w (.agg #[.int .i64 x.op, .slice x.A x.ns x.cs, .int .i64 x.mn, .int .i64 x.mx, .slice x.D x.nk x.ck]) T := h.one
theorem awake_wf : WfW awakeT := by
  have i : ∀ n : Int, -1000 ≤ n ∧ n ≤ 1000 → In64 n := fun n h => by unfold In64; omega
  have e : ∀ p ∈ ([] : List (Int × Int)), In64 p.1 ∧ In64 p.2 := fun p hp => by cases hp
  have c : ∀ k : Int, -1000 ≤ k ∧ k ≤ 1000 → ∀ p ∈ [(k, k)], In64 p.1 ∧ In64 p.2 := fun k hk p hp => by
    rw [List.mem_singleton] at hp; subst hp; exact ⟨i _ hk, i _ hk⟩
  exact ⟨⟨i _ (by decide), i _ (by decide), i _ (by decide), e⟩, ⟨⟨i _ (by decide), i _ (by decide), i _ (by decide), c _ (by decide)⟩, trivial, ⟨i _ (by decide), i _ (by decide), i _ (by decide), e⟩, ⟨⟨i _ (by decide), i _ (by decide), i _ (by decide), c _ (by decide)⟩, trivial, trivial⟩, trivial⟩, trivial⟩
set_option maxHeartbeats 2000000 in
theorem awake_any (w : World) (ht : Tab w.heap.size w) : Calls Tryd.prog 5 #[] w fun e w' => e = .returned (.bool true) ∧ Below w.heap.size w w' := by
  have HP1 := Lib.hid (parse_some awake_tree (by decide) w)
  have HP2 := Lib.hid fun w => parse_no awake_none (by decide) w
  have HTB := Lib.hid ht
  have hsh := awake_show
  obtain ⟨R, hR⟩ : ∃ R, R = oneB awakeT := ⟨_, rfl⟩
  rw [← hR] at hsh
  have HR := Lib.hid hR
  subst hsh
  clear hR ht
  go_enter Tryd.func5, Tryd.ntmps5
  go_wp2_with (first
    | (go_at_call 6; (with_reducible refine HP1.out.mono ?_); rintro e w1 ⟨x, rfl, hN, hb⟩; have H1 := Lib.hid (And.intro hN hb); clear hN hb; simp only [NV.val])
    | (go_at_call 6; (with_reducible refine (HP2.out _).mono ?_); rintro e w2 ⟨rfl, hb⟩; have hb2 : Below w.heap.size w w2 := (H1.out.2.alloc H1.out.2.size (.cells #[.int .i64 x.op, .slice x.A x.ns x.cs, .int .i64 x.mn, .int .i64 x.mx, .slice x.D x.nk x.ck] 26)).trans (hb.mono (Nat.le_trans H1.out.2.size (by simp))); have hbx : w2.heap[w1.heap.size]? = _ := (hb.block _ (by simp)).trans (heap_alloc_new w1 (.cells #[.int .i64 x.op, .slice x.A x.ns x.cs, .int .i64 x.mn, .int .i64 x.mx, .slice x.D x.nk x.ck] 26)); have H2 := Lib.hid (And.intro hb2 (H1.out.1.below (((Below.refl _ _).alloc (Nat.le_refl _) (.cells #[.int .i64 x.op, .slice x.A x.ns x.cs, .int .i64 x.mn, .int .i64 x.mx, .slice x.D x.nk x.ck] 26)).trans (hb.mono (by simp))))); obtain ⟨p0, p1, p2, p3, p4, _⟩ := box_facts hbx; have up := fun (j : Nat) (v : Value) (h : w2.cell? ⟨w1.heap.size, j, none⟩ = some v) => (((Below.refl w2.heap.size w2).alloc (Nat.le_refl _) (.cells #[.int .i64 0, .slice none 0 0, .int .i64 0, .int .i64 0, .slice none 0 0] 26)).cell (p := ⟨w1.heap.size, j, none⟩) (Nat.lt_of_lt_of_le (by simp) hb.size)).trans h; have d0 := up _ _ p0; have d1 := up _ _ p1; have d2 := up _ _ p2; have d3 := up _ _ p3; have d4 := up _ _ p4; clear hb2 hbx hb up; simp only [zeroNV, NV.val])
    | (go_at_call 10; (with_reducible refine (pshow_any awakeT (fun b => w.heap.size ≤ b) _ _ ((H2.out.2.below ((Below.refl _ _).alloc (Nat.le_refl _) (.cells #[.int .i64 0, .slice none 0 0, .int .i64 0, .int .i64 0, .slice none 0 0] 26))).one') awake_wf (by decide) ((HTB.out.on (H2.out.1.alloc H2.out.1.size (.cells #[.int .i64 0, .slice none 0 0, .int .i64 0, .int .i64 0, .slice none 0 0] 26))).up (Nat.le_trans H2.out.1.size (by simp)))).mono ?_); rintro e w3 ⟨rfl, hb⟩; rw [← HR.out]; have H3 := Lib.hid hb; clear hb))
  go_ret
  exact ⟨rfl, (H2.out.1.alloc H2.out.1.size _).trans (H3.out.mono (Nat.le_trans H2.out.1.size (by simp)))⟩
end Go.Proofs.YtjpabeeokgfloaaDoor
