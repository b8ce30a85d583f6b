/- Texts. -/
import Derived.Test.YtaapbmdojkjphaaGreatZ05
import Derived.Test.YtaapbmdojkjphaaGreatZ12
import Derived.Test.YtaapbmdojkjphaaGreatZ24
import Derived.OwnWalk
namespace Go.Proofs.YtaapbmdojkjphaaGreat
open Go Go.RowKit
set_option linter.unusedVariables false
set_option maxRecDepth 20000
set_option maxHeartbeats 1000000 in
theorem join_any (op : Int) {w : World} {B : Nat} {P : Option Addr} {q pc : Nat} {xs : List NV} {T : Wood} (h : w.ownsRow B 27 5 (.slice P q pc) q (cellsN xs)) (hT : NodesIn (Fr B (.slice P q pc)) w xs T) (hq : q ≤ 100000) :
    Calls Tryz.prog 62 #[.int .i64 op, .slice P q pc] w fun e w' => ∃ v, e = .returned v ∧ NodeIn (fun b => B ≤ b) w' v (oneN op T) ∧ Below w.heap.size w w' := by
  have hl := hT.len
  have hq1 : xs.length = q := by have := h.1; rw [cellsN_length] at this; omega
  rcases Nat.lt_trichotomy q 1 with h0 | h0 | h0
  · have h0 : q = 0 := by omega
    subst h0
    have hx : xs = [] := List.eq_nil_of_length_eq_zero hq1
    subst hx
    have hTn : T = .nil := by
      match T, hT with
      | .nil, _ => rfl
    subst hTn
    clear h hT hl hq1
    go_enter Tryz.func62, Tryz.ntmps62
    go_wp2
    refine bodyPost_ret (v := .agg #[.int .i64 0, .slice none 0 0, .int .i64 0, .int .i64 0, .slice none 0 0]) ?_ rfl ⟨_, rfl, node_leaf _ _ 0, by go_grown⟩
    rw [cell1_result rfl]; go_simp
  · subst h0
    obtain ⟨b, rfl, hB, hb, -, -, -, hc⟩ := row_cellsN h (by omega)
    rcases xs with _ | ⟨x, _ | ⟨y, xs⟩⟩
    · simp at hq1
    · have HC := fun i v hv => hc 0 x rfl i v hv
      have c0 := HC 0 _ rfl
      have c1 := HC 1 _ rfl
      have c2 := HC 2 _ rfl
      have c3 := HC 3 _ rfl
      have c4 := HC 4 _ rfl
      have HN := Lib.hid (hT.move (F' := fun b => B ≤ b) (Nat.le_refl _) (fun b hF _ => ⟨hF.1, rfl⟩)).one
      have hon : oneN op T = T := oneN_one (by rw [hl]; rfl)
      rw [hon]
      simp only [Nat.zero_mul, Nat.zero_add, Nat.add_zero] at c0 c1 c2 c3 c4
      have up : ∀ (j : Nat) (v : Value) (o : Obj), w.cell? ⟨b, j, none⟩ = some v → (w.alloc o).cell? ⟨b, j, none⟩ = some v := fun j v o h => (((Below.refl w.heap.size w).alloc (Nat.le_refl _) o).cell (p := ⟨b, j, none⟩) hb).trans h
      have d0 := fun o => up _ _ o c0
      have d1 := fun o => up _ _ o c1
      have d2 := fun o => up _ _ o c2
      have d3 := fun o => up _ _ o c3
      have d4 := fun o => up _ _ o c4
      clear h hT hl hq1 hc HC hon up
      go_enter Tryz.func62, Tryz.ntmps62
      go_wp2
      refine bodyPost_ret (v := x.val) ?_ rfl ⟨_, rfl, HN.out.below (by go_grown), by go_grown⟩
      rw [cell1_result rfl]; go_simp
      rfl
    · simp at hq1
  · obtain ⟨b, rfl, hB, hb, -, hqp, -, hc⟩ := row_cellsN h (by omega)
    have hon : oneN op T = .cons op [] 0 0 T .nil := oneN_more (by omega)
    have HN := Lib.hid (show NodeIn (fun b => B ≤ b) w (.agg #[.int .i64 op, .slice none 0 0, .int .i64 0, .int .i64 0, .slice (some ⟨b, 0, none⟩) q pc]) (oneN op T) by
      rw [hon]
      exact ⟨op, [], 0, 0, T, none, some ⟨b, 0, none⟩, 0, 0, q, pc, rfl, rfl, ⟨rowF_nil _ w, hqp⟩, by omega, fun _ => ⟨b, 0, rfl, hB, hb, ((hT.move (F' := fun b => B ≤ b) (Nat.le_refl _) (fun b hF _ => ⟨hF.1, rfl⟩)).wood hc)⟩⟩)
    have n0 : ((q : Int) == 0) = false := by simp; omega
    have n1 : ((q : Int) == 1) = false := by simp; omega
    clear h hT hl hq1 hc hon
    go_enter Tryz.func62, Tryz.ntmps62
    go_wp2
    refine bodyPost_ret (v := .agg #[.int .i64 op, .slice none 0 0, .int .i64 0, .int .i64 0, .slice (some ⟨b, 0, none⟩) q pc]) ?_ rfl ⟨_, rfl, HN.out.below (by go_grown), by go_grown⟩
    rw [cell1_result rfl]; go_simp
end Go.Proofs.YtaapbmdojkjphaaGreat
namespace Go.Proofs.YtaapbmdojkjphaaGreat
open Go Go.RowKit
set_option linter.unusedVariables false
set_option maxRecDepth 20000
theorem escL_some {r : Int} {s : List (Int × Int)} {is : Bool} (h : escL r = some (s, is)) : 0 < s.length := by
  unfold escL at h
  split at h
  · rename_i hr
    injection h with h; injection h with h1 h2
    subst h1
    rcases hr with rfl | rfl | rfl <;> decide
  split at h
  · rename_i hr
    injection h with h; injection h with h1 h2
    subst h1
    rcases hr with rfl | rfl | rfl
    · rw [show (68 : Int) + 32 = 100 from rfl, setOf_digits]; decide
    · rw [show (87 : Int) + 32 = 119 from rfl, setOf_words]; decide
    · rw [show (83 : Int) + 32 = 115 from rfl, setOf_spaces]; decide
  split at h
  · injection h with h; injection h with h1 h2; subst h1; simp
  split at h
  · injection h with h; injection h with h1 h2; subst h1; simp
  split at h
  · injection h with h; injection h with h1 h2; subst h1; simp
  split at h
  · injection h with h; injection h with h1 h2; subst h1; simp
  · cases h
theorem ptL_some {l r : List Int} {s : List (Int × Int)} {is : Bool} (h : ptL l = some (s, is, r)) : 0 < s.length ∧ s.length ≤ 5 := by
  rcases l with _ | ⟨x, l⟩
  · cases h
  unfold ptL at h
  dsimp only at h
  split at h
  · cases h
  split at h
  · rcases l with _ | ⟨e, l⟩
    · cases h
    · dsimp only at h
      obtain ⟨⟨s', b⟩, he, h⟩ := Option.map_eq_some_iff.1 h
      injection h with h _
      simp only at h
      subst h
      exact ⟨escL_some he, (escL_is he).2.1⟩
  · injection h with h; injection h with h _; subst h; simp
theorem partL_some {l r : List Int} {s : List (Int × Int)} (h : partL l = some (s, r)) : 0 < s.length ∧ s.length ≤ 5 := by
  unfold partL at h
  split at h
  · cases h
  · rename_i s1 is l1 h1
    split at h
    · split at h
      · split at h
        · split at h
          · cases h
          · injection h with h; injection h with h _; subst h; simp
        · cases h
      · injection h with h; injection h with h _; subst h; exact ptL_some h1
    · injection h with h; injection h with h _; subst h; exact ptL_some h1
def PAt (R : Option (List (Int × Int) × List Int)) (l : List Int) (xs : List (Int × Int)) : Prop := ∃ f, l.length + 1 ≤ f ∧ R = partsL f l xs (decide (0 < xs.length))
theorem PAt.shut {R : Option (List (Int × Int) × List Int)} {l : List Int} {xs : List (Int × Int)} (h : PAt R (93 :: l) xs) (hx : 0 < xs.length) : R = some (xs, l) := by
  obtain ⟨f, hf, rfl⟩ := h
  obtain ⟨f, rfl⟩ : ∃ g, f = g + 1 := ⟨f - 1, by omega⟩
  rw [decide_eq_true hx]
  rfl
theorem PAt.none_ {R : Option (List (Int × Int) × List Int)} {l : List Int} {xs : List (Int × Int)} (h : PAt R l xs) (hno : ¬ (0 < xs.length ∧ l.headD (-1) = 93)) (hp : partL l = none) : R = none := by
  obtain ⟨f, hf, rfl⟩ := h
  obtain ⟨f, rfl⟩ : ∃ g, f = g + 1 := ⟨f - 1, by omega⟩
  rw [partsL_part f xs (by rw [decide_eq_true_iff]; rintro ⟨h1, h2⟩; exact hno ⟨h1, by rcases l with _ | ⟨x, l⟩ <;> simp_all⟩), hp]
theorem PAt.next {R : Option (List (Int × Int) × List Int)} {l l' : List Int} {xs s : List (Int × Int)} (h : PAt R l xs) (hno : ¬ (0 < xs.length ∧ l.headD (-1) = 93)) (hp : partL l = some (s, l')) : PAt R l' (xs ++ s) := by
  obtain ⟨f, hf, rfl⟩ := h
  obtain ⟨f, rfl⟩ : ∃ g, f = g + 1 := ⟨f - 1, by omega⟩
  have h1 := partL_lt hp
  refine ⟨f, by omega, ?_⟩
  rw [partsL_part f xs (by rw [decide_eq_true_iff]; rintro ⟨h1, h2⟩; exact hno ⟨h1, by rcases l with _ | ⟨x, l⟩ <;> simp_all⟩), hp]
  have h2 := (partL_some hp).1
  rw [decide_eq_true (show 0 < (xs ++ s).length by rw [List.length_append]; omega)]
def ClassV (g : Nat) (R : Option (List (Int × Int) × List Int)) (w : World) (e : Ending) (w' : World) : Prop :=
  (∃ P q pc, e = .returned (.tuple #[.slice P q pc, .bool false]) ∧ R = none ∧ Off g w w') ∨
  (∃ P q pc s l', e = .returned (.tuple #[.slice P q pc, .bool true]) ∧ R = some (s, l') ∧ w'.ownsRow w.heap.size 74 2 (.slice P q pc) q (cellsG s) ∧ Rd w' g l' ∧ Off g w w')
set_option maxHeartbeats 4000000 in
theorem class_walk (F : FacesS) (neg : Bool) {l l0 : List Int} {w : World} {g : Nat} (h : Rd w g l) (hl0 : l0 = if l.headD (-1) = 94 then l.tail else l) (hneg : neg = decide (l.headD (-1) = 94)) (R : Option (List (Int × Int) × List Int)) (hR : PAt R l0 []) :
    Calls Tryz.prog 144 #[.pointer (some ⟨g, 0, none⟩)] w (ClassV g (R.map fun p => (setOf fun x => hasL p.1 x != neg, p.2)) w) := by
  have HT := Lib.hid (take_any (x := 94) (by decide) h)
  rw [← hneg, ← hl0] at HT
  have hg := h.lt
  have hlen : l0.length ≤ 1000 := by have := h.few; rw [hl0]; split <;> simp <;> omega
  have HR := Lib.hid hR
  clear h hl0 hneg hR
  go_enter Tryz.func144, Tryz.ntmps144
  go_wp2_with (go_at_call 61; (with_reducible refine HT.out.mono ?_); rintro e w1 ⟨rfl, hr, ho⟩; have HO := Lib.hid (And.intro hr ho); clear hr ho)
  go_loopw [5] (fun vs wr => ∃ (q pc : Nat) (P : Option Addr) (xs : List (Int × Int)) (lr : List Int), vs = .slice P q pc ∧
    Hid (q + 5 * lr.length ≤ 5 * l0.length ∧ wr.ownsRow w.heap.size 74 2 (.slice P q pc) q (cellsG xs) ∧ Rd wr g lr ∧ Off g w wr ∧ PAt R lr xs)) (fun _ wr => leftR wr g)
  case atStart => exact ⟨0, 0, none, [], l0, rfl, Lib.hid ⟨by omega, nilG _ _, HO.out.1, HO.out.2, HR.out⟩⟩
  case round =>
    obtain ⟨q, pc, P, xs, lr, rfl, H⟩ := hrel
    have hql : xs.length = q := by have := H.out.2.1.1; rw [cellsG_length] at this; omega
    have hq5 : q ≤ 5000 := by have := H.out.1; omega
    rcases Nat.eq_zero_or_pos q with h0 | h0
    · subst h0
      have HNO := Lib.hid (show ¬ (0 < xs.length ∧ lr.headD (-1) = 93) by rw [hql]; rintro ⟨h, _⟩; omega)
      rcases hpt : partL lr with _ | ⟨s, l'⟩
      · have HE := Lib.hid (H.out.2.2.2.2.none_ HNO.out hpt)
        have HPT := Lib.hid fun w (h : Rd w g lr) => show Calls Tryz.prog 155 #[.pointer (some ⟨g, 0, none⟩)] w fun e w' => ∃ V, e = .returned (.tuple #[V, .bool false]) ∧ Off g w w' from (part_any F h).mono fun e w' hv => by
          rcases hv with ⟨V, he, _, ho⟩ | ⟨P, q, pc, s, l', he, hp, _⟩
          · exact ⟨V, he, ho⟩
          · rw [hpt] at hp; cases hp
        clear hpt hql
        go_wp2_with (first
          | (go_at_call 155; (with_reducible refine (HPT.out _ H.out.2.2.1).mono ?_); rintro e w3 ⟨V, rfl, ho⟩; have HO3 := Lib.hid ho; clear ho))
        go_ret2
        refine .inl ⟨none, 0, 0, rfl, ?_, H.out.2.2.2.1.trans HO3.out⟩
        rw [HE.out]; rfl
      · have HE := Lib.hid (H.out.2.2.2.2.next HNO.out hpt)
        have hlt := partL_lt hpt
        obtain ⟨hs1, hs5⟩ := partL_some hpt
        have HPT := Lib.hid fun w (h : Rd w g lr) => show Calls Tryz.prog 155 #[.pointer (some ⟨g, 0, none⟩)] w fun e w' => ∃ P pc, e = .returned (.tuple #[.slice P s.length pc, .bool true]) ∧ w'.ownsRow w.heap.size 74 2 (.slice P s.length pc) s.length (cellsG s) ∧ Rd w' g l' ∧ Off g w w' from (part_any F h).mono fun e w' hv => by
          rcases hv with ⟨V, he, hp, ho⟩ | ⟨P, q, pc, s2, l2, he, hp, ho, hr, hf⟩
          · rw [hpt] at hp; cases hp
          · rw [hpt] at hp
            injection hp with hp; injection hp with e1 e2
            subst e1; subst e2
            have hq : q = s.length := by have := ho.1; rw [cellsG_length] at this; omega
            subst hq
            exact ⟨P, pc, he, ho, hr, hf⟩
        clear hpt hql
        go_wp2_with (first
          | (go_at_call 155; (with_reducible refine (HPT.out _ H.out.2.2.1).mono ?_); rintro e w3 ⟨P1, pc1, rfl, hw1, hr1, ho1⟩; have HO3 := Lib.hid (And.intro hw1 (And.intro hr1 ho1)); obtain ⟨A1, c1, ev, hrow, _⟩ := rowG_of_own hw1 rfl; injection ev with ev1 _ ev3; subst ev1; subst ev3; obtain ⟨P2, pc2, w4, ha, ho2, hb2⟩ := app_G (own_off (own_off H.out.2.1 hg (Off.refl _ _)) hg ho1) hrow (own_none hw1) (by omega) (by omega) (Nat.le_trans H.out.2.2.2.1.1.size ho1.1.size); have HA := Lib.hid ha; have HW := Lib.hid (And.intro ho2 hb2); clear hw1 hr1 ho1 hrow ha ho2 hb2)
          | (at_builtin; refine wpList_append_run rfl _ _ 24 rfl rfl _ _ _ _ rfl rfl HA.out ?_))
        refine ⟨⟨_, _, _, xs ++ s, l', rfl, Lib.hid ⟨by have := H.out.1; omega, by have := HW.out.1; rwa [Nat.zero_add] at this, HO3.out.2.1.keep HW.out.2 hg, (H.out.2.2.2.1.trans HO3.out.2.2).grown hg HW.out.2, HE.out⟩⟩, ?_⟩
        rw [(HO3.out.2.1.keep HW.out.2 hg).left, H.out.2.2.1.left]
        exact hlt
    · have hq0 : ((q : Int) == 0) = false := by simp; omega
      by_cases h93 : lr.headD (-1) = 93
      · rcases lr with _ | ⟨x, lr⟩
        · cases h93
        rw [List.headD_cons] at h93
        subst h93
        have HTK := Lib.hid (take_yes H.out.2.2.1)
        have HE := Lib.hid (H.out.2.2.2.2.shut (by omega))
        cases neg with
        | true =>
          have HN := Lib.hid fun w (h : RowG w P q xs) => F.no w P q pc xs h (by omega)
          clear hql
          go_wp2_with (first
            | (go_at_call 61; (with_reducible refine HTK.out.mono ?_); rintro e w2 ⟨rfl, hr, ho⟩; have HO2 := Lib.hid (And.intro hr ho); clear hr ho)
            | (go_at_call 142; (with_reducible refine (HN.out _ (rowG_own9 (own_off H.out.2.1 hg HO2.out.2))).mono ?_); rintro e w3 ⟨V, t, rfl, ho, hc, hm⟩; obtain ⟨P3, pc3, rfl, _⟩ := rowG_of_own ho.1 rfl; have HO3 := Lib.hid (And.intro ho (And.intro hc hm)); clear ho hc hm))
          go_ret2
          refine .inr ⟨P3, _, pc3, t, lr, rfl, ?_, row_base HO3.out.1.1 (fun k e => Nat.le_trans (H.out.2.2.2.1.trans HO2.out.2).1.size (row_lt HO3.out.1.1 e).1), HO2.out.1.below HO3.out.1.2, (H.out.2.2.2.1.trans HO2.out.2).trans (Off.of_below HO3.out.1.2 (Nat.lt_of_lt_of_le hg (H.out.2.2.2.1.trans HO2.out.2).1.size))⟩
          rw [HE.out]
          have ht : t = setOf fun x => hasL xs x != true := setOf_of HO3.out.2.1 fun r => by rw [HO3.out.2.2 r]; cases hasL xs r <;> simp
          rw [ht]
          rfl
        | false =>
          have HN := Lib.hid fun w (h : RowG w P q xs) => F.of w P q pc xs h (by omega)
          clear hql
          go_wp2_with (first
            | (go_at_call 61; (with_reducible refine HTK.out.mono ?_); rintro e w2 ⟨rfl, hr, ho⟩; have HO2 := Lib.hid (And.intro hr ho); clear hr ho)
            | (go_at_call 107; (with_reducible refine (HN.out _ (rowG_own9 (own_off H.out.2.1 hg HO2.out.2))).mono ?_); rintro e w3 ⟨V, t, rfl, ho, hc, hm⟩; obtain ⟨P3, pc3, rfl, _⟩ := rowG_of_own ho.1 rfl; have HO3 := Lib.hid (And.intro ho (And.intro hc hm)); clear ho hc hm))
          go_ret2
          refine .inr ⟨P3, _, pc3, t, lr, rfl, ?_, row_base HO3.out.1.1 (fun k e => Nat.le_trans (H.out.2.2.2.1.trans HO2.out.2).1.size (row_lt HO3.out.1.1 e).1), HO2.out.1.below HO3.out.1.2, (H.out.2.2.2.1.trans HO2.out.2).trans (Off.of_below HO3.out.1.2 (Nat.lt_of_lt_of_le hg (H.out.2.2.2.1.trans HO2.out.2).1.size))⟩
          rw [HE.out]
          have ht : t = setOf fun x => hasL xs x != false := setOf_of HO3.out.2.1 fun r => by rw [HO3.out.2.2 r]; exact (hasL_inR xs r).trans (by cases hasL xs r <;> simp)
          rw [ht]
          rfl
      · have HNO := Lib.hid (show ¬ (0 < xs.length ∧ lr.headD (-1) = 93) by rintro ⟨_, h⟩; exact h93 h)
        have HTK := Lib.hid (take_no H.out.2.2.1 h93)
        clear h93
        rcases hpt : partL lr with _ | ⟨s, l'⟩
        · have HE := Lib.hid (H.out.2.2.2.2.none_ HNO.out hpt)
          have HPT := Lib.hid fun w (h : Rd w g lr) => show Calls Tryz.prog 155 #[.pointer (some ⟨g, 0, none⟩)] w fun e w' => ∃ V, e = .returned (.tuple #[V, .bool false]) ∧ Off g w w' from (part_any F h).mono fun e w' hv => by
            rcases hv with ⟨V, he, _, ho⟩ | ⟨P, q, pc, s, l', he, hp, _⟩
            · exact ⟨V, he, ho⟩
            · rw [hpt] at hp; cases hp
          clear hpt hql
          go_wp2_with (first
            | (go_at_call 61; (with_reducible refine HTK.out.mono ?_); rintro e w2 ⟨rfl, rfl⟩)
            | (go_at_call 155; (with_reducible refine (HPT.out _ H.out.2.2.1).mono ?_); rintro e w3 ⟨V, rfl, ho⟩; have HO3 := Lib.hid ho; clear ho))
          go_ret2
          refine .inl ⟨none, 0, 0, rfl, ?_, H.out.2.2.2.1.trans HO3.out⟩
          rw [HE.out]; rfl
        · have HE := Lib.hid (H.out.2.2.2.2.next HNO.out hpt)
          have hlt := partL_lt hpt
          obtain ⟨hs1, hs5⟩ := partL_some hpt
          have HPT := Lib.hid fun w (h : Rd w g lr) => show Calls Tryz.prog 155 #[.pointer (some ⟨g, 0, none⟩)] w fun e w' => ∃ P pc, e = .returned (.tuple #[.slice P s.length pc, .bool true]) ∧ w'.ownsRow w.heap.size 74 2 (.slice P s.length pc) s.length (cellsG s) ∧ Rd w' g l' ∧ Off g w w' from (part_any F h).mono fun e w' hv => by
            rcases hv with ⟨V, he, hp, ho⟩ | ⟨P, q, pc, s2, l2, he, hp, ho, hr, hf⟩
            · rw [hpt] at hp; cases hp
            · rw [hpt] at hp
              injection hp with hp; injection hp with e1 e2
              subst e1; subst e2
              have hq : q = s.length := by have := ho.1; rw [cellsG_length] at this; omega
              subst hq
              exact ⟨P, pc, he, ho, hr, hf⟩
          clear hpt hql
          go_wp2_with (first
            | (go_at_call 61; (with_reducible refine HTK.out.mono ?_); rintro e w2 ⟨rfl, rfl⟩)
            | (go_at_call 155; (with_reducible refine (HPT.out _ H.out.2.2.1).mono ?_); rintro e w3 ⟨P1, pc1, rfl, hw1, hr1, ho1⟩; have HO3 := Lib.hid (And.intro hw1 (And.intro hr1 ho1)); obtain ⟨A1, c1, ev, hrow, _⟩ := rowG_of_own hw1 rfl; injection ev with ev1 _ ev3; subst ev1; subst ev3; obtain ⟨P2, pc2, w4, ha, ho2, hb2⟩ := app_G (own_off (own_off H.out.2.1 hg (Off.refl _ _)) hg ho1) hrow (own_none hw1) (by omega) (by omega) (Nat.le_trans H.out.2.2.2.1.1.size ho1.1.size); have HA := Lib.hid ha; have HW := Lib.hid (And.intro ho2 hb2); clear hw1 hr1 ho1 hrow ha ho2 hb2)
            | (at_builtin; refine wpList_append_run rfl _ _ 24 rfl rfl _ _ _ _ rfl rfl HA.out ?_))
          refine ⟨⟨_, _, _, xs ++ s, l', rfl, Lib.hid ⟨by have := H.out.1; omega, HW.out.1, HO3.out.2.1.keep HW.out.2 hg, (H.out.2.2.2.1.trans HO3.out.2.2).grown hg HW.out.2, HE.out⟩⟩, ?_⟩
          rw [(HO3.out.2.1.keep HW.out.2 hg).left, H.out.2.2.1.left]
          exact hlt
theorem class_any (F : FacesS) {l : List Int} {w : World} {g : Nat} (h : Rd w g l) :
    Calls Tryz.prog 144 #[.pointer (some ⟨g, 0, none⟩)] w (ClassV g (classL l) w) := by
  by_cases h94 : l.headD (-1) = 94
  · rcases l with _ | ⟨x, l⟩
    · cases h94
    rw [List.headD_cons] at h94
    subst h94
    have := class_walk F true (l0 := l) h (by rfl) (by rfl) (partsL (l.length + 1) l [] false) ⟨_, Nat.le_refl _, rfl⟩
    have e : classL (94 :: l) = (partsL (l.length + 1) l [] false).map fun p => (setOf fun x => hasL p.1 x != true, p.2) := by
      show (partsL (l.length + 1) l [] false).map (fun p => (setOf fun x => !hasL p.1 x, p.2)) = _
      congr 1
      funext p
      congr 2
      funext x
      cases hasL p.1 x <;> rfl
    rw [e]
    exact this
  · have := class_walk F false (l0 := l) h (by rw [if_neg h94]) (by rw [decide_eq_false h94]) (partsL (l.length + 1) l [] false) ⟨_, Nat.le_refl _, rfl⟩
    have e : classL l = (partsL (l.length + 1) l [] false).map fun p => (setOf fun x => hasL p.1 x != false, p.2) := by
      have e1 : ∀ (s : List (Int × Int)), setOf (fun x => hasL s x) = setOf fun x => hasL s x != false := fun s => by congr 1; funext x; cases hasL s x <;> rfl
      unfold classL
      split
      · exact absurd rfl h94
      · congr 1; funext p; rw [e1]
    rw [e]
    exact this
end Go.Proofs.YtaapbmdojkjphaaGreat
namespace Go.Proofs.YtaapbmdojkjphaaGreat
open Go Go.RowKit
set_option linter.unusedVariables false
set_option maxRecDepth 20000
def digitsL (l : List Int) : Int × Bool × List Int :=
  match l with
  | a :: b :: l' => if isDig a = true then (if isDig b = true then (10 * (a - 48) + (b - 48), decide (10 * (a - 48) + (b - 48) ≤ 50), l') else (a - 48, true, b :: l')) else (0, false, l)
  | [a] => if isDig a = true then (a - 48, true, []) else (0, false, l)
  | [] => (0, false, [])
theorem digits_num (l : List Int) : numL l = if (digitsL l).2.1 = true then some ((digitsL l).1, (digitsL l).2.2) else none := by
  rcases l with _ | ⟨a, _ | ⟨b, l⟩⟩
  · rfl
  · cases ha : isDig a <;> simp [numL, digitsL, ha]
  · cases ha : isDig a
    · simp [numL, digitsL, ha]
    · cases hb : isDig b
      · simp [numL, digitsL, ha, hb]
      · by_cases h : 10 * (a - 48) + (b - 48) ≤ 50
        · have h2 : ¬ 10 * (a - 48) + (b - 48) > 50 := by omega
          simp only [numL, digitsL, ha, hb, if_true, if_neg h2, decide_eq_true h]
        · have h2 : 10 * (a - 48) + (b - 48) > 50 := by omega
          simp only [numL, digitsL, ha, hb, if_true, if_pos h2, decide_eq_false h]
          rfl
def NumV (g : Nat) (l : List Int) (w : World) (e : Ending) (w' : World) : Prop :=
  e = .returned (.tuple #[.int .i64 (digitsL l).1, .bool (digitsL l).2.1]) ∧ Rd w' g (digitsL l).2.2 ∧ Off g w w'
set_option maxHeartbeats 1000000 in
theorem number_none {l : List Int} {x : Int} (hx : x = l.headD (-1)) (hd : ¬ (48 ≤ x ∧ x ≤ 57)) {w : World} {g : Nat} (h : Rd w g l) :
    Calls Tryz.prog 147 #[.pointer (some ⟨g, 0, none⟩)] w (NumV g l w) := by
  have HP := Lib.hid (peek_any h)
  rw [← hx] at HP
  have HV := Lib.hid (show NumV g l w (.returned (.tuple #[.int .i64 0, .bool false])) w by
    have : digitsL l = (0, false, l) := by
      rcases l with _ | ⟨a, _ | ⟨b, l⟩⟩
      · rfl
      · have : isDig a = false := by rw [← Bool.not_eq_true, isDig_iff, show a = x from hx.symm]; exact hd
        simp [digitsL, this]
      · have : isDig a = false := by rw [← Bool.not_eq_true, isDig_iff, show a = x from hx.symm]; exact hd
        simp [digitsL, this]
    unfold NumV
    rw [this]
    exact ⟨rfl, h, Off.refl _ _⟩)
  clear h hx
  rcases (show x < 48 ∨ (¬ x < 48 ∧ 57 < x) by omega) with h1 | ⟨h1, h2⟩
  all_goals
    clear hd
    go_enter Tryz.func147, Tryz.ntmps147
    go_wp2
    refine wp_loop_rounds 3 ?_
    rw [rounds_succ]
    go_wp2_with (go_at_call 101; (with_reducible refine HP.out.mono ?_); rintro e w1 ⟨rfl, rfl⟩)
    go_ret2
    exact HV.out
set_option maxHeartbeats 1000000 in
theorem number_one {a x : Int} {l : List Int} (ha1 : 48 ≤ a) (ha2 : a ≤ 57) (hx : x = l.headD (-1)) (hd : ¬ (48 ≤ x ∧ x ≤ 57)) {w : World} {g : Nat} (h : Rd w g (a :: l)) :
    Calls Tryz.prog 147 #[.pointer (some ⟨g, 0, none⟩)] w (NumV g (a :: l) w) := by
  have HP := Lib.hid (peek_any h)
  rw [List.headD_cons] at HP
  have HN := Lib.hid (next_cons h)
  have HP2 := Lib.hid fun w (h : Rd w g l) => peek_any h
  rw [← hx] at HP2
  have HV := Lib.hid (show digitsL (a :: l) = (a - 48, true, l) by
    have hda : isDig a = true := (isDig_iff a).2 ⟨ha1, ha2⟩
    rcases l with _ | ⟨b, l⟩
    · simp [digitsL, hda]
    · have : isDig b = false := by rw [← Bool.not_eq_true, isDig_iff, show b = x from hx.symm]; exact hd
      simp [digitsL, hda, this])
  have w1 : IntKind.i64.wrap (10 * 0 + a - 48) = a - 48 := by rw [IntKind.wrap_i64]; omega
  have w2 : IntKind.i64.wrap a = a := by rw [IntKind.wrap_i64]; omega
  have w3 : IntKind.i64.wrap (a - 48) = a - 48 := by rw [IntKind.wrap_i64]; omega
  have h3 : ¬ a < 48 := by omega
  have h4 : ¬ 57 < a := by omega
  have h5 : a - 48 ≤ 50 := by omega
  clear h hx
  rcases (show x < 48 ∨ (¬ x < 48 ∧ 57 < x) by omega) with h1 | ⟨h1, h2⟩
  all_goals
    clear hd
    go_enter Tryz.func147, Tryz.ntmps147
    go_wp2
    refine wp_loop_rounds 3 ?_
    rw [rounds_succ]
    go_wp2_with (first
      | (go_at_call 101; (with_reducible refine HP.out.mono ?_); rintro e w1 ⟨rfl, rfl⟩)
      | (go_at_call 103; (with_reducible refine HN.out.mono ?_); rintro e w2 ⟨rfl, hr, ho⟩; have HO := Lib.hid (And.intro hr ho); clear hr ho))
    rw [rounds_succ]
    go_wp2_with (go_at_call 101; (with_reducible refine (HP2.out _ HO.out.1).mono ?_); rintro e w1 ⟨rfl, rfl⟩)
    go_ret2
    unfold NumV
    rw [HV.out]
    exact ⟨by go_num, HO.out.1, HO.out.2⟩
set_option maxHeartbeats 1000000 in
theorem number_two {a b : Int} {l : List Int} (ha1 : 48 ≤ a) (ha2 : a ≤ 57) (hb1 : 48 ≤ b) (hb2 : b ≤ 57) {w : World} {g : Nat} (h : Rd w g (a :: b :: l)) :
    Calls Tryz.prog 147 #[.pointer (some ⟨g, 0, none⟩)] w (NumV g (a :: b :: l) w) := by
  have HP := Lib.hid (peek_any h)
  rw [List.headD_cons] at HP
  have HN := Lib.hid (next_cons h)
  have HP2 := Lib.hid fun w (h : Rd w g (b :: l)) => peek_any h
  rw [List.headD_cons] at HP2
  have HN2 := Lib.hid fun w (h : Rd w g (b :: l)) => next_cons h
  have HV := Lib.hid (show digitsL (a :: b :: l) = (10 * (a - 48) + (b - 48), decide (10 * (a - 48) + (b - 48) ≤ 50), l) by
    have hda : isDig a = true := (isDig_iff a).2 ⟨ha1, ha2⟩
    have hdb : isDig b = true := (isDig_iff b).2 ⟨hb1, hb2⟩
    simp [digitsL, hda, hdb])
  have w2 : IntKind.i64.wrap a = a := by rw [IntKind.wrap_i64]; omega
  have w3 : IntKind.i64.wrap (a - 48) = a - 48 := by rw [IntKind.wrap_i64]; omega
  have w4 : IntKind.i64.wrap (10 * (a - 48)) = 10 * (a - 48) := by rw [IntKind.wrap_i64]; omega
  have w5 : IntKind.i64.wrap (10 * (a - 48) + b) = 10 * (a - 48) + b := by rw [IntKind.wrap_i64]; omega
  have w6 : IntKind.i64.wrap (10 * (a - 48) + b - 48) = 10 * (a - 48) + b - 48 := by rw [IntKind.wrap_i64]; omega
  have h3 : ¬ a < 48 := by omega
  have h4 : ¬ 57 < a := by omega
  have h5 : ¬ b < 48 := by omega
  have h6 : ¬ 57 < b := by omega
  have e6 : 10 * (a - 48) + b - 48 = 10 * (a - 48) + (b - 48) := by omega
  obtain ⟨v, hv⟩ : ∃ v, v = 10 * (a - 48) + b - 48 := ⟨_, rfl⟩
  rw [← e6, ← hv] at HV
  rw [← hv] at w6
  have HVE := Lib.hid hv
  clear h e6 hv
  go_enter Tryz.func147, Tryz.ntmps147
  go_wp2
  refine wp_loop_rounds 3 ?_
  rw [rounds_succ]
  go_wp2_with (first
    | (go_at_call 101; (with_reducible refine HP.out.mono ?_); rintro e w1 ⟨rfl, rfl⟩)
    | (go_at_call 103; (with_reducible refine HN.out.mono ?_); rintro e w2 ⟨rfl, hr, ho⟩; have HO := Lib.hid (And.intro hr ho); clear hr ho))
  rw [rounds_succ]
  go_wp2_with (first
    | (go_at_call 101; (with_reducible refine (HP2.out _ HO.out.1).mono ?_); rintro e w1 ⟨rfl, rfl⟩)
    | (go_at_call 103; (with_reducible refine (HN2.out _ HO.out.1).mono ?_); rintro e w2 ⟨rfl, hr, ho⟩; have HO2 := Lib.hid (And.intro hr ho); clear hr ho))
  rw [rounds_succ]
  go_wp2
  go_ret2
  unfold NumV
  rw [HV.out]
  exact ⟨by rw [HVE.out]; rfl, HO2.out.1, HO.out.2.trans HO2.out.2⟩
theorem number_any {l : List Int} {w : World} {g : Nat} (h : Rd w g l) :
    Calls Tryz.prog 147 #[.pointer (some ⟨g, 0, none⟩)] w (NumV g l w) := by
  by_cases hd : 48 ≤ l.headD (-1) ∧ l.headD (-1) ≤ 57
  · rcases l with _ | ⟨a, l⟩
    · rw [List.headD_nil] at hd; omega
    rw [List.headD_cons] at hd
    by_cases hd2 : 48 ≤ l.headD (-1) ∧ l.headD (-1) ≤ 57
    · rcases l with _ | ⟨b, l⟩
      · rw [List.headD_nil] at hd2; omega
      rw [List.headD_cons] at hd2
      exact number_two hd.1 hd.2 hd2.1 hd2.2 h
    · exact number_one hd.1 hd.2 rfl hd2 h
  · exact number_none rfl hd h
def BraceV (g : Nat) (l : List Int) (w : World) (e : Ending) (w' : World) : Prop :=
  (∃ a b : Int, e = .returned (.tuple #[.int .i64 a, .int .i64 b, .bool false]) ∧ braceL l = none ∧ Off g w w') ∨
  (∃ (a b : Int) (l' : List Int), e = .returned (.tuple #[.int .i64 a, .int .i64 b, .bool true]) ∧ braceL l = some (tokN a b, l') ∧ Rd w' g l' ∧ Off g w w')
theorem NumV.mk {l r : List Int} {a : Int} {ok : Bool} (hd : digitsL l = (a, ok, r)) {w : World} {g : Nat} (h : Rd w g l) :
    Calls Tryz.prog 147 #[.pointer (some ⟨g, 0, none⟩)] w fun e w' => e = .returned (.tuple #[.int .i64 a, .bool ok]) ∧ Rd w' g r ∧ Off g w w' := by
  refine (number_any h).mono fun e w' hv => ?_
  unfold NumV at hv
  rw [hd] at hv
  exact hv
section
variable {l r : List Int} {a : Int} {w : World} {g : Nat}
theorem braces_none (hd : digitsL l = (a, false, r)) (h : Rd w g l) :
    Calls Tryz.prog 124 #[.pointer (some ⟨g, 0, none⟩)] w (BraceV g l w) := by
  have HN := Lib.hid (NumV.mk hd h)
  have HB := Lib.hid (show braceL l = none by unfold braceL; rw [digits_num, hd]; rfl)
  clear h hd
  go_enter Tryz.func124, Tryz.ntmps124
  go_wp2_with (first
      | (go_at_call 147; (with_reducible refine HN.out.mono ?_); rintro e w1 ⟨rfl, hr, ho⟩; have HO := Lib.hid (And.intro hr ho); clear hr ho))
  go_ret3
  exact .inl ⟨_, _, rfl, HB.out, HO.out.2⟩
set_option maxHeartbeats 1000000 in
theorem braces_one (hd : digitsL l = (a, true, r)) (h44 : r.headD (-1) ≠ 44) (h : Rd w g l) :
    Calls Tryz.prog 124 #[.pointer (some ⟨g, 0, none⟩)] w (BraceV g l w) := by
  have HN := Lib.hid (NumV.mk hd h)
  have HT := Lib.hid fun w (h : Rd w g r) => take_no h h44
  by_cases h125 : r.headD (-1) = 125
  · rcases r with _ | ⟨x, r⟩
    · cases h125
    rw [List.headD_cons] at h125
    subst h125
    have HT2 := Lib.hid fun w (h : Rd w g (125 :: r)) => take_yes h
    have HB := Lib.hid (show braceL l = some (tokN a a, r) by unfold braceL; rw [digits_num, hd]; rfl)
    clear h hd h44
    go_enter Tryz.func124, Tryz.ntmps124
    go_wp2_with (first
      | (go_at_call 147; (with_reducible refine HN.out.mono ?_); rintro e w1 ⟨rfl, hr, ho⟩; have HO := Lib.hid (And.intro hr ho); clear hr ho)
      | (go_at_call 61; (with_reducible refine (HT.out _ HO.out.1).mono ?_); rintro e w2 ⟨rfl, rfl⟩)
      | (go_at_call 61; (with_reducible refine (HT2.out _ HO.out.1).mono ?_); rintro e w2 ⟨rfl, hr, ho⟩; have HO2 := Lib.hid (And.intro hr ho); clear hr ho))
    go_ret3
    exact .inr ⟨_, _, r, rfl, HB.out, HO2.out.1, HO.out.2.trans HO2.out.2⟩
  · have HT2 := Lib.hid fun w (h : Rd w g r) => take_no h h125
    have HB := Lib.hid (show braceL l = none by
      unfold braceL; rw [digits_num, hd]
      rcases r with _ | ⟨x, r⟩
      · rfl
      · simp only [List.headD_cons] at h44 h125
        simp [h44, h125])
    clear h hd h44 h125
    go_enter Tryz.func124, Tryz.ntmps124
    go_wp2_with (first
      | (go_at_call 147; (with_reducible refine HN.out.mono ?_); rintro e w1 ⟨rfl, hr, ho⟩; have HO := Lib.hid (And.intro hr ho); clear hr ho)
      | (go_at_call 61; (with_reducible refine (HT.out _ HO.out.1).mono ?_); rintro e w2 ⟨rfl, rfl⟩)
      | (go_at_call 61; (with_reducible refine (HT2.out _ HO.out.1).mono ?_); rintro e w2 ⟨rfl, rfl⟩))
    go_ret3
    exact .inl ⟨_, _, rfl, HB.out, HO.out.2⟩
set_option maxHeartbeats 1000000 in
theorem braces_open (hd : digitsL l = (a, true, 44 :: 125 :: r)) (h : Rd w g l) :
    Calls Tryz.prog 124 #[.pointer (some ⟨g, 0, none⟩)] w (BraceV g l w) := by
  have HN := Lib.hid (NumV.mk hd h)
  have HT := Lib.hid fun w (h : Rd w g (44 :: 125 :: r)) => take_yes h
  have HP := Lib.hid fun w (h : Rd w g (125 :: r)) => peek_any h
  have HT2 := Lib.hid fun w (h : Rd w g (125 :: r)) => take_yes h
  have HB := Lib.hid (show braceL l = some (tokN a (-1), r) by unfold braceL; rw [digits_num, hd]; rfl)
  clear h hd
  go_enter Tryz.func124, Tryz.ntmps124
  go_wp2_with (first
      | (go_at_call 147; (with_reducible refine HN.out.mono ?_); rintro e w1 ⟨rfl, hr, ho⟩; have HO := Lib.hid (And.intro hr ho); clear hr ho)
      | (go_at_call 61; (with_reducible refine (HT.out _ HO.out.1).mono ?_); rintro e w2 ⟨rfl, hr, ho⟩; have HO2 := Lib.hid (And.intro hr ho); clear hr ho)
      | (go_at_call 101; (with_reducible refine (HP.out _ HO2.out.1).mono ?_); rintro e w3 ⟨rfl, rfl⟩; rw [List.headD_cons])
      | (go_at_call 61; (with_reducible refine (HT2.out _ HO2.out.1).mono ?_); rintro e w4 ⟨rfl, hr, ho⟩; have HO4 := Lib.hid (And.intro hr ho); clear hr ho))
  go_ret3
  exact .inr ⟨_, _, r, rfl, HB.out, HO4.out.1, HO.out.2.trans (HO2.out.2.trans HO4.out.2)⟩
set_option maxHeartbeats 2000000 in
theorem braces_two {r2 : List Int} {b : Int} {ok : Bool} (hd : digitsL l = (a, true, 44 :: r)) (h125 : r.headD (-1) ≠ 125) (hd2 : digitsL r = (b, ok, r2)) (h : Rd w g l) :
    Calls Tryz.prog 124 #[.pointer (some ⟨g, 0, none⟩)] w (BraceV g l w) := by
  have HN := Lib.hid (NumV.mk hd h)
  have HT := Lib.hid fun w (h : Rd w g (44 :: r)) => take_yes h
  have HP := Lib.hid fun w (h : Rd w g r) => peek_any h
  have HN2 := Lib.hid fun w (h : Rd w g r) => NumV.mk hd2 h
  have HL := Lib.hid (show braceL l = match numL r with
      | some (b, 125 :: l'') => if b < a then none else some (tokN a b, l'')
      | _ => none by
    unfold braceL; rw [digits_num, hd]
    rcases r with _ | ⟨x, r⟩
    · rfl
    · rw [List.headD_cons] at h125
      simp [h125]
      rfl)
  have hne : (r.headD (-1) != 125) = true := by simpa using h125
  generalize r.headD (-1) = y at HP hne
  rw [digits_num, hd2] at HL
  clear h hd hd2 h125
  cases ok with
  | false =>
    have HB := Lib.hid (show braceL l = none from HL.out)
    go_enter Tryz.func124, Tryz.ntmps124
    go_wp2_with (first
      | (go_at_call 147; (with_reducible refine HN.out.mono ?_); rintro e w1 ⟨rfl, hr, ho⟩; have HO := Lib.hid (And.intro hr ho); clear hr ho)
      | (go_at_call 61; (with_reducible refine (HT.out _ HO.out.1).mono ?_); rintro e w2 ⟨rfl, hr, ho⟩; have HO2 := Lib.hid (And.intro hr ho); clear hr ho)
      | (go_at_call 101; (with_reducible refine (HP.out _ HO2.out.1).mono ?_); rintro e w3 ⟨rfl, rfl⟩)
      | (go_at_call 147; (with_reducible refine (HN2.out _ HO2.out.1).mono ?_); rintro e w4 ⟨rfl, hr, ho⟩; have HO4 := Lib.hid (And.intro hr ho); clear hr ho))
    go_ret3
    exact .inl ⟨_, _, rfl, HB.out, HO.out.2.trans (HO2.out.2.trans HO4.out.2)⟩
  | true =>
    simp only [if_true] at HL
    by_cases hab : a ≤ b
    · have hle : decide (a ≤ b) = true := by simpa using hab
      have hnlt : ¬ b < a := by omega
      have HT2 := Lib.hid fun w (h : Rd w g r2) => take_any (x := 125) (by decide) h
      by_cases h125 : r2.headD (-1) = 125
      · rcases r2 with _ | ⟨x, r2⟩
        · cases h125
        rw [List.headD_cons] at h125
        subst h125
        have HT2 := Lib.hid fun w (h : Rd w g (125 :: r2)) => take_yes h
        have HB := Lib.hid (show braceL l = some (tokN a b, r2) from HL.out.trans (if_neg hnlt))
        clear hab hnlt
        go_enter Tryz.func124, Tryz.ntmps124
        go_wp2_with (first
      | (go_at_call 147; (with_reducible refine HN.out.mono ?_); rintro e w1 ⟨rfl, hr, ho⟩; have HO := Lib.hid (And.intro hr ho); clear hr ho)
      | (go_at_call 61; (with_reducible refine (HT.out _ HO.out.1).mono ?_); rintro e w2 ⟨rfl, hr, ho⟩; have HO2 := Lib.hid (And.intro hr ho); clear hr ho)
          | (go_at_call 101; (with_reducible refine (HP.out _ HO2.out.1).mono ?_); rintro e w3 ⟨rfl, rfl⟩)
          | (go_at_call 147; (with_reducible refine (HN2.out _ HO2.out.1).mono ?_); rintro e w4 ⟨rfl, hr, ho⟩; have HO4 := Lib.hid (And.intro hr ho); clear hr ho)
          | (go_at_call 61; (with_reducible refine (HT2.out _ HO4.out.1).mono ?_); rintro e w5 ⟨rfl, hr, ho⟩; have HO5 := Lib.hid (And.intro hr ho); clear hr ho))
        go_ret3
        exact .inr ⟨_, _, r2, rfl, HB.out, HO5.out.1, HO.out.2.trans (HO2.out.2.trans (HO4.out.2.trans HO5.out.2))⟩
      · have HT2 := Lib.hid fun w (h : Rd w g r2) => take_no h h125
        have HB := Lib.hid (show braceL l = none by
          rw [HL.out]
          rcases r2 with _ | ⟨x, r2⟩
          · rfl
          · rw [List.headD_cons] at h125
            simp [h125])
        clear hab hnlt h125
        go_enter Tryz.func124, Tryz.ntmps124
        go_wp2_with (first
      | (go_at_call 147; (with_reducible refine HN.out.mono ?_); rintro e w1 ⟨rfl, hr, ho⟩; have HO := Lib.hid (And.intro hr ho); clear hr ho)
      | (go_at_call 61; (with_reducible refine (HT.out _ HO.out.1).mono ?_); rintro e w2 ⟨rfl, hr, ho⟩; have HO2 := Lib.hid (And.intro hr ho); clear hr ho)
          | (go_at_call 101; (with_reducible refine (HP.out _ HO2.out.1).mono ?_); rintro e w3 ⟨rfl, rfl⟩)
          | (go_at_call 147; (with_reducible refine (HN2.out _ HO2.out.1).mono ?_); rintro e w4 ⟨rfl, hr, ho⟩; have HO4 := Lib.hid (And.intro hr ho); clear hr ho)
          | (go_at_call 61; (with_reducible refine (HT2.out _ HO4.out.1).mono ?_); rintro e w5 ⟨rfl, rfl⟩))
        go_ret3
        exact .inl ⟨_, _, rfl, HB.out, HO.out.2.trans (HO2.out.2.trans HO4.out.2)⟩
    · have hle : decide (a ≤ b) = false := by simpa using hab
      have HB := Lib.hid (show braceL l = none by
        rw [HL.out]
        rcases r2 with _ | ⟨x, r2⟩
        · rfl
        · by_cases hx : x = 125
          · subst hx; exact if_pos (by omega)
          · simp [hx])
      clear hab
      go_enter Tryz.func124, Tryz.ntmps124
      go_wp2_with (first
      | (go_at_call 147; (with_reducible refine HN.out.mono ?_); rintro e w1 ⟨rfl, hr, ho⟩; have HO := Lib.hid (And.intro hr ho); clear hr ho)
      | (go_at_call 61; (with_reducible refine (HT.out _ HO.out.1).mono ?_); rintro e w2 ⟨rfl, hr, ho⟩; have HO2 := Lib.hid (And.intro hr ho); clear hr ho)
        | (go_at_call 101; (with_reducible refine (HP.out _ HO2.out.1).mono ?_); rintro e w3 ⟨rfl, rfl⟩)
        | (go_at_call 147; (with_reducible refine (HN2.out _ HO2.out.1).mono ?_); rintro e w4 ⟨rfl, hr, ho⟩; have HO4 := Lib.hid (And.intro hr ho); clear hr ho))
      go_ret3
      exact .inl ⟨_, _, rfl, HB.out, HO.out.2.trans (HO2.out.2.trans HO4.out.2)⟩
theorem braces_any (h : Rd w g l) : Calls Tryz.prog 124 #[.pointer (some ⟨g, 0, none⟩)] w (BraceV g l w) := by
  rcases hd : digitsL l with ⟨a, _ | _, r⟩
  · exact braces_none hd h
  · by_cases h44 : r.headD (-1) = 44
    · rcases r with _ | ⟨x, r⟩
      · cases h44
      rw [List.headD_cons] at h44
      subst h44
      by_cases h125 : r.headD (-1) = 125
      · rcases r with _ | ⟨x, r⟩
        · cases h125
        rw [List.headD_cons] at h125
        subst h125
        exact braces_open hd h
      · rcases hd2 : digitsL r with ⟨b, ok, r2⟩
        exact braces_two hd h125 hd2 h
    · exact braces_one hd h44 h
end
end Go.Proofs.YtaapbmdojkjphaaGreat
namespace Go.Proofs.YtaapbmdojkjphaaGreat
open Go Go.RowKit
set_option linter.unusedVariables false
set_option maxRecDepth 20000
def cellC (A : Option Addr) (n c : Nat) : NV := ⟨1, A, n, c, 0, 0, none, 0, 0⟩
def AtomV (d g : Nat) (l : List Int) (w : World) (e : Ending) (w' : World) : Prop :=
  (∃ x : NV, e = .returned (.tuple #[x.val, .bool false]) ∧ (∀ st a p, st.length = d → runL l st a p false = none) ∧ Off g w w') ∨
  (∃ (x : NV) (n : Wood) (l' : List Int), e = .returned (.tuple #[x.val, .bool true]) ∧ NodesIn (fun b => w.heap.size ≤ b) w' [x] n ∧ l'.length < l.length ∧ (∀ st a p, st.length = d → runL l st a p false = runL l' st a (p.app n) true) ∧ Rd w' g l' ∧ Off g w w')
theorem charN {F : Nat → Prop} {w : World} {A : Option Addr} {n c : Nat} {s : List (Int × Int)} (h : RowF F w A n s) : NodesIn F w [cellC A n c] (leaf 1 s) := ⟨⟨rfl, rfl, rfl⟩, ⟨h, Nat.le_refl 0⟩, kids_nil F w, trivial⟩
def RoomAt (g : Nat) (w a : World) : Prop := Off g w a ∧ w.heap.size < a.heap.size ∧ a.heap[w.heap.size]? = some (.cells #[.int .i64 0, .slice none 0 0, .int .i64 0, .int .i64 0, .slice none 0 0] 27 (0, 0))
section
variable {g : Nat} {w a b : World}
theorem RoomAt.start (hg : g < w.heap.size) : RoomAt g w (w.alloc (.cells #[.int .i64 0, .slice none 0 0, .int .i64 0, .int .i64 0, .slice none 0 0] 27)) :=
  ⟨(Off.refl g w).alloc hg _, by simp, heap_alloc_new w _⟩
theorem RoomAt.off (h : RoomAt g w a) (hg : g < w.heap.size) (ho : Off g a b) : RoomAt g w b :=
  ⟨h.1.trans ho, Nat.lt_of_lt_of_le h.2.1 ho.1.size, (ho.2 _ h.2.1 (by omega)).trans h.2.2⟩
theorem RoomAt.below (h : RoomAt g w a) (hg : g < w.heap.size) (ho : Below a.heap.size a b) : RoomAt g w b := h.off hg (Off.of_below ho (by have := h.2.1; omega))
theorem RoomAt.alloc (h : RoomAt g w a) (hg : g < w.heap.size) (o : Obj) : RoomAt g w (a.alloc o) := h.below hg ((Below.refl _ _).alloc (Nat.le_refl _) o)
theorem RoomAt.facts (h : RoomAt g w a) : a.cell? ⟨w.heap.size, 0, none⟩ = some (.int .i64 0) ∧ a.cell? ⟨w.heap.size, 1, none⟩ = some (.slice none 0 0) ∧ a.cell? ⟨w.heap.size, 2, none⟩ = some (.int .i64 0) ∧ a.cell? ⟨w.heap.size, 3, none⟩ = some (.int .i64 0) ∧ a.cell? ⟨w.heap.size, 4, none⟩ = some (.slice none 0 0) ∧ ∀ j, a.frozen? ⟨w.heap.size, j, none⟩ = false := box_facts h.2.2
theorem RoomAt.put (h : RoomAt g w a) (hg : g < w.heap.size) (x : NV) : Off g w (put5 a w.heap.size (.int .i64 x.op) (.slice x.A x.ns x.cs) (.int .i64 x.mn) (.int .i64 x.mx) (.slice x.D x.nk x.ck)) :=
  h.1.grown hg (put5_below a (Nat.le_refl _) _ _ _ _ _)
theorem RoomAt.nodes (h : RoomAt g w a) {xs : List NV} {T : Wood} (x : NV) (hN : NodesIn (fun b => w.heap.size < b) a xs T) : NodesIn (fun b => w.heap.size ≤ b) (put5 a w.heap.size (.int .i64 x.op) (.slice x.A x.ns x.cs) (.int .i64 x.mn) (.int .i64 x.mx) (.slice x.D x.nk x.ck)) xs T :=
  hN.move (by rw [put5_size]; exact Nat.le_refl _) fun b hF _ => ⟨Nat.le_of_lt hF, put5_other a (Nat.ne_of_gt hF) _ _ _ _ _⟩
theorem RoomAt.rd (h : RoomAt g w a) (hg : g < w.heap.size) {l : List Int} (hr : Rd a g l) (x : NV) : Rd (put5 a w.heap.size (.int .i64 x.op) (.slice x.A x.ns x.cs) (.int .i64 x.mn) (.int .i64 x.mx) (.slice x.D x.nk x.ck)) g l :=
  hr.keep (put5_below a (Nat.le_refl _) _ _ _ _ _) hg
theorem RoomAt.cells (h : RoomAt g w a) (x : NV) : (put5 a w.heap.size (.int .i64 x.op) (.slice x.A x.ns x.cs) (.int .i64 x.mn) (.int .i64 x.mx) (.slice x.D x.nk x.ck)).cell? ⟨w.heap.size, 0, none⟩ = some (.int .i64 x.op) ∧ (put5 a w.heap.size (.int .i64 x.op) (.slice x.A x.ns x.cs) (.int .i64 x.mn) (.int .i64 x.mx) (.slice x.D x.nk x.ck)).cell? ⟨w.heap.size, 1, none⟩ = some (.slice x.A x.ns x.cs) ∧ (put5 a w.heap.size (.int .i64 x.op) (.slice x.A x.ns x.cs) (.int .i64 x.mn) (.int .i64 x.mx) (.slice x.D x.nk x.ck)).cell? ⟨w.heap.size, 2, none⟩ = some (.int .i64 x.mn) ∧ (put5 a w.heap.size (.int .i64 x.op) (.slice x.A x.ns x.cs) (.int .i64 x.mn) (.int .i64 x.mx) (.slice x.D x.nk x.ck)).cell? ⟨w.heap.size, 3, none⟩ = some (.int .i64 x.mx) ∧ (put5 a w.heap.size (.int .i64 x.op) (.slice x.A x.ns x.cs) (.int .i64 x.mn) (.int .i64 x.mx) (.slice x.D x.nk x.ck)).cell? ⟨w.heap.size, 4, none⟩ = some (.slice x.D x.nk x.ck) ∧ ∀ j, (put5 a w.heap.size (.int .i64 x.op) (.slice x.A x.ns x.cs) (.int .i64 x.mn) (.int .i64 x.mx) (.slice x.D x.nk x.ck)).frozen? ⟨w.heap.size, j, none⟩ = false := box_facts (put5_heap h.2.2 _ _ _ _ _)
end
theorem of_one (F : FacesS) (c : Int) (w : World) :
    Calls Tryz.prog 107 #[.slice (some ⟨w.heap.size, 0, none⟩) 1 1] (w.alloc (.cells #[.int .i64 c, .int .i64 c] 74)) fun e w' => ∃ P q pc t, e = .returned (.slice P q pc) ∧ RowF (fun b => w.heap.size < b) w' P q t ∧ Below w.heap.size w w' ∧ (0 ≤ c ∧ c ≤ 1114111 → t = [(c, c)]) := by
  refine (F.of _ _ 1 1 [(c, c)] (rowG_made w [(c, c)]) (by omega)).mono fun e w' ⟨V, t, he, ho, hc, hm⟩ => ?_
  obtain ⟨P, pc, rfl, _⟩ := rowG_of_own ho.1 rfl
  have hsz : (w.alloc (.cells #[.int .i64 c, .int .i64 c] 74)).heap.size = w.heap.size + 1 := by simp
  have h1 : Below w.heap.size w (w.alloc (.cells #[.int .i64 c, .int .i64 c] 74)) := (Below.refl _ _).alloc (Nat.le_refl _) _
  refine ⟨P, _, pc, t, he, (rowF_own ho.1).mono fun b hb => ?_, h1.trans (ho.2.mono (by simp)), fun hr => ?_⟩
  · have hb : (w.alloc (.cells #[.int .i64 c, .int .i64 c] 74)).heap.size ≤ b := hb
    omega
  · exact canon_one hc ⟨hr.1, Int.le_refl _, hr.2, trivial⟩ hm
theorem not_ten (F : FacesS) (w : World) :
    Calls Tryz.prog 142 #[.slice (some ⟨w.heap.size, 0, none⟩) 1 1] (w.alloc (.cells #[.int .i64 10, .int .i64 10] 74)) fun e w' => ∃ P q pc, e = .returned (.slice P q pc) ∧ RowF (fun b => w.heap.size < b) w' P q [(0, 9), (11, 1114111)] ∧ Below w.heap.size w w' := by
  refine (F.no _ _ 1 1 [(10, 10)] (rowG_made w [(10, 10)]) (by omega)).mono fun e w' ⟨V, t, he, ho, hc, hm⟩ => ?_
  obtain ⟨P, pc, rfl, _⟩ := rowG_of_own ho.1 rfl
  have hsz : (w.alloc (.cells #[.int .i64 10, .int .i64 10] 74)).heap.size = w.heap.size + 1 := by simp
  have h1 : Below w.heap.size w (w.alloc (.cells #[.int .i64 10, .int .i64 10] 74)) := (Below.refl _ _).alloc (Nat.le_refl _) _
  have ht : t = [(0, 9), (11, 1114111)] := canon_one hc (by simp [Canon, CanonF]) fun r => by
    rw [hm r, Bool.eq_iff_iff]
    simp [inR, hasL, List.any]
    omega
  subst ht
  refine ⟨P, _, pc, he, (rowF_own ho.1).mono fun b hb => ?_, h1.trans (ho.2.mono (by simp))⟩
  have hb : (w.alloc (.cells #[.int .i64 10, .int .i64 10] 74)).heap.size ≤ b := hb
  omega
theorem itself_pts {x c : Int} (hx : x ≠ -1 → 0 ≤ x ∧ x ≤ 1114111) (h : itselfL x = (c, true)) : 0 ≤ c ∧ c ≤ 1114111 := by
  unfold itselfL at h
  split at h
  · injection h with h _; omega
  split at h
  · injection h with h _; omega
  split at h
  · injection h with h _; omega
  · injection h with h1 h2
    subst h1
    refine hx fun e => ?_
    subst e
    cases h2
theorem class_bad (F : FacesS) {l : List Int} (hc : classL l = none) {w : World} {g : Nat} (h : Rd w g l) :
    Calls Tryz.prog 144 #[.pointer (some ⟨g, 0, none⟩)] w fun e w' => ∃ q pc P, e = .returned (.tuple #[.slice P q pc, .bool false]) ∧ Off g w w' := by
  refine (class_any F h).mono fun e w' hv => ?_
  rcases hv with ⟨P, q, pc, he, _, ho⟩ | ⟨P, q, pc, s, l', he, hp, _⟩
  · exact ⟨q, pc, P, he, ho⟩
  · rw [hc] at hp; cases hp
theorem class_good (F : FacesS) {l l' : List Int} {s : List (Int × Int)} (hc : classL l = some (s, l')) {w : World} {g : Nat} (h : Rd w g l) :
    Calls Tryz.prog 144 #[.pointer (some ⟨g, 0, none⟩)] w fun e w' => ∃ P q pc, e = .returned (.tuple #[.slice P q pc, .bool true]) ∧ w'.ownsRow w.heap.size 74 2 (.slice P q pc) q (cellsG s) ∧ Rd w' g l' ∧ Off g w w' := by
  refine (class_any F h).mono fun e w' hv => ?_
  rcases hv with ⟨P, q, pc, he, hn, ho⟩ | ⟨P, q, pc, s2, l2, he, hp, how, hr, ho⟩
  · rw [hc] at hn; cases hn
  · rw [hc] at hp
    injection hp with hp
    injection hp with e1 e2
    subst e1; subst e2
    exact ⟨P, q, pc, he, how, hr, ho⟩
theorem atom_end {d g : Nat} {w a : World} {l l' : List Int} {P : Option Addr} {q pc : Nat} {s : List (Int × Int)} {b : Bool} (hR : RoomAt g w a) (hg : g < w.heap.size) (hT : RowF (fun b => w.heap.size < b) a P q s) (hRd : b = true → Rd a g l')
    (hy : b = true → l'.length < l.length ∧ ∀ st a p, runL l st a p false = runL l' st a (p.app (leaf 1 s)) true) (hn : b = false → ∀ st a p, runL l st a p false = none) :
    AtomV d g l w (.returned (.tuple #[(cellC P q pc).val, .bool b])) (put5 a w.heap.size (.int .i64 1) (.slice P q pc) (.int .i64 0) (.int .i64 0) (.slice none 0 0)) := by
  cases b with
  | false => exact .inl ⟨_, rfl, fun st a p _ => hn rfl st a p, hR.put hg (cellC P q pc)⟩
  | true => exact .inr ⟨_, leaf 1 s, l', rfl, hR.nodes (cellC P q pc) (charN hT), (hy rfl).1, fun st a p _ => (hy rfl).2 st a p, hR.rd hg (hRd rfl) (cellC P q pc), hR.put hg (cellC P q pc)⟩
theorem run_sign {c : Int} {l : List Int} (h : signB c = true) (h1 : c ≠ 40) (h2 : c ≠ 46) (h3 : c ≠ 91) (h4 : c ≠ 92) (h5 : c ≠ 94 ∧ c ≠ 36 ∧ c ≠ 124 ∧ c ≠ 41) (st : List (Wood × Wood)) (a p : Wood) : runL (c :: l) st a p false = none := by
  unfold signB at h
  rw [decide_eq_true_iff] at h
  simp only [List.mem_cons, List.not_mem_nil, or_false] at h
  rcases (show c = 93 ∨ c = 125 ∨ c = 42 ∨ c = 43 ∨ c = 63 ∨ c = 123 by omega) with rfl | rfl | rfl | rfl | rfl | rfl
  · exact runL_none (tok_shutb l) (by simp)
  · exact runL_none (tok_shutc l) (by simp)
  all_goals exact runL_count_no (by rw [List.headD_cons]; decide)
set_option maxHeartbeats 2000000 in
theorem atom_plain (F : FacesS) (d : Nat) {c : Int} {l : List Int} (h1 : c ≠ 40) (h2 : c ≠ 46) (h3 : c ≠ 91) (h4 : c ≠ 92) {w : World} {g : Nat} (h : Rd w g (c :: l)) (hs : c ≠ 94 ∧ c ≠ 36 ∧ c ≠ 124 ∧ c ≠ 41) :
    Calls Tryz.prog 123 #[.pointer (some ⟨g, 0, none⟩), .int .i64 (d : Int)] w (AtomV d g (c :: l) w) := by
  have hg := h.lt
  have HR1 := Lib.hid (RoomAt.start hg)
  have hR1 := h.below ((Below.refl _ _).alloc (Nat.le_refl _) (.cells #[.int .i64 0, .slice none 0 0, .int .i64 0, .int .i64 0, .slice none 0 0] 27))
  have hpts := h.pts c (by simp)
  have hpl : plainB (c :: l) = true := by unfold plainB; split <;> simp_all
  have HN := Lib.hid (named_no F hpl hR1)
  have HX := Lib.hid (next_cons hR1)
  have HS := Lib.hid hs
  clear h hR1 hpl hs
  go_enter Tryz.func123, Tryz.ntmps123
  go_wp2_with (first
    | (go_at_call 139; (with_reducible refine HN.out.mono ?_); rintro e w1 ⟨rfl, rfl⟩)
    | (go_at_call 103; (with_reducible refine HX.out.mono ?_); rintro e w2 ⟨rfl, hr, ho⟩; have HR2 := Lib.hid (HR1.out.off hg ho); have HRd := Lib.hid hr; clear hr ho)
    | (go_at_call 143; (with_reducible refine (one_any _ _).mono ?_); rintro e w3 ⟨rfl, hb⟩; have HR3 := Lib.hid (HR2.out.below hg hb); have HRd3 := Lib.hid (HRd.out.below hb); clear hb)
    | (go_at_call 107; (with_reducible refine (of_one F _ _).mono ?_); rintro e w4 ⟨P, q, pc, t, rfl, hrow, hb, ht⟩; have HR4 := Lib.hid (HR3.out.below hg hb); have HRd4 := Lib.hid (HRd3.out.below hb); have ht := ht hpts; subst ht; have HT := Lib.hid (hrow.mono fun b (hb : w3.heap.size < b) => show w.heap.size < b from Nat.lt_trans HR3.out.2.1 hb); clear hrow hb)
    | (go_at_call 140; (with_reducible refine (char_any _ _ _ _).mono ?_); rintro e w9 ⟨rfl, hb⟩; have HR9 := Lib.hid (HR4.out.below hg hb); have HRd9 := Lib.hid (HRd4.out.below hb); have HT9 := Lib.hid (HT.out.below hb); obtain ⟨q0, q1, q2, q3, q4, qf⟩ := HR9.out.facts; clear hb)
    | (go_at_call 146; (with_reducible refine (sign_any _ _).mono ?_); rintro e w10 ⟨rfl, rfl⟩))
  obtain ⟨z0, z1, z2, z3, z4, _⟩ := HR9.out.cells (cellC P q pc)
  simp only [put5, cellC] at z0 z1 z2 z3 z4
  (try simp only [Exit.inBlock, Exit.then])
  refine bodyPost_ret (v := .tuple #[(cellC P q pc).val, .bool !(signB c)]) ?_ rfl ?_
  · rw [results_cell_tmp rfl]; go_simp
    rfl
  · exact atom_end HR9.out hg HT9.out (fun _ => HRd9.out) (fun hb => ⟨by simp, fun st a p => runL_char (tok_plain l (by simpa using hb)) rfl⟩) (fun hb => run_sign (by simpa using hb) h1 h2 h3 h4 HS.out)
set_option maxHeartbeats 2000000 in
theorem atom_letter (F : FacesS) (d : Nat) {y : Int} {l : List Int} (hl : letterB y = true) {w : World} {g : Nat} (h : Rd w g (92 :: y :: l)) :
    Calls Tryz.prog 123 #[.pointer (some ⟨g, 0, none⟩), .int .i64 (d : Int)] w (AtomV d g (92 :: y :: l) w) := by
  have hg := h.lt
  have HR1 := Lib.hid (RoomAt.start hg)
  have hR1 := h.below ((Below.refl _ _).alloc (Nat.le_refl _) (.cells #[.int .i64 0, .slice none 0 0, .int .i64 0, .int .i64 0, .slice none 0 0] 27))
  have HN := Lib.hid (named_yes F hl hR1)
  clear h hR1 hl
  go_enter Tryz.func123, Tryz.ntmps123
  go_wp2_with (first
    | (go_at_call 139; (with_reducible refine HN.out.mono ?_); rintro e w2 ⟨P, q, pc, s, rfl, he, how, hr, ho⟩; have HR2 := Lib.hid (HR1.out.off hg ho); have HRd := Lib.hid hr; have HE := Lib.hid he; have HT := Lib.hid ((rowF_own how).mono fun b hb => show w.heap.size < b from Nat.lt_of_lt_of_le HR1.out.2.1 hb); clear hr ho he how)
    | (go_at_call 140; (with_reducible refine (char_any _ _ _ _).mono ?_); rintro e w9 ⟨rfl, hb⟩; have HR9 := Lib.hid (HR2.out.below hg hb); have HRd9 := Lib.hid (HRd.out.below hb); have HT9 := Lib.hid (HT.out.below hb); obtain ⟨q0, q1, q2, q3, q4, qf⟩ := HR9.out.facts; clear hb))
  obtain ⟨z0, z1, z2, z3, z4, _⟩ := HR9.out.cells (cellC P q pc)
  simp only [put5, cellC] at z0 z1 z2 z3 z4
  (try simp only [Exit.inBlock, Exit.then])
  refine bodyPost_ret (v := .tuple #[(cellC P q pc).val, .bool true]) ?_ rfl ?_
  · rw [results_cell_tmp rfl]; go_simp
    rfl
  · exact atom_end HR9.out hg HT9.out (fun _ => HRd9.out) (fun hb => ⟨by simp only [List.length_cons]; omega, fun st a p => runL_char (t := tokC s) (by rw [tok_back, HE.out]; rfl) rfl⟩) (fun hb => by cases hb)
set_option maxHeartbeats 2000000 in
theorem atom_dot (F : FacesS) (d : Nat) {l : List Int} {w : World} {g : Nat} (h : Rd w g (46 :: l)) :
    Calls Tryz.prog 123 #[.pointer (some ⟨g, 0, none⟩), .int .i64 (d : Int)] w (AtomV d g (46 :: l) w) := by
  have hg := h.lt
  have HR1 := Lib.hid (RoomAt.start hg)
  have hR1 := h.below ((Below.refl _ _).alloc (Nat.le_refl _) (.cells #[.int .i64 0, .slice none 0 0, .int .i64 0, .int .i64 0, .slice none 0 0] 27))
  have HN := Lib.hid (named_no F (l := 46 :: l) rfl hR1)
  have HX := Lib.hid (next_cons hR1)
  clear h hR1
  go_enter Tryz.func123, Tryz.ntmps123
  go_wp2_with (first
    | (go_at_call 139; (with_reducible refine HN.out.mono ?_); rintro e w1 ⟨rfl, rfl⟩)
    | (go_at_call 103; (with_reducible refine HX.out.mono ?_); rintro e w2 ⟨rfl, hr, ho⟩; have HR2 := Lib.hid (HR1.out.off hg ho); have HRd := Lib.hid hr; clear hr ho)
    | (go_at_call 143; (with_reducible refine (one_any _ _).mono ?_); rintro e w3 ⟨rfl, hb⟩; have HR3 := Lib.hid (HR2.out.below hg hb); have HRd3 := Lib.hid (HRd.out.below hb); clear hb)
    | (go_at_call 142; (with_reducible refine (not_ten F _).mono ?_); rintro e w4 ⟨P, q, pc, rfl, hrow, hb⟩; have HR4 := Lib.hid (HR3.out.below hg hb); have HRd4 := Lib.hid (HRd3.out.below hb); have HT := Lib.hid (hrow.mono fun b (hb : w3.heap.size < b) => show w.heap.size < b from Nat.lt_trans HR3.out.2.1 hb); clear hrow hb)
    | (go_at_call 140; (with_reducible refine (char_any _ _ _ _).mono ?_); rintro e w9 ⟨rfl, hb⟩; have HR9 := Lib.hid (HR4.out.below hg hb); have HRd9 := Lib.hid (HRd4.out.below hb); have HT9 := Lib.hid (HT.out.below hb); obtain ⟨q0, q1, q2, q3, q4, qf⟩ := HR9.out.facts; clear hb))
  obtain ⟨z0, z1, z2, z3, z4, _⟩ := HR9.out.cells (cellC P q pc)
  simp only [put5, cellC] at z0 z1 z2 z3 z4
  (try simp only [Exit.inBlock, Exit.then])
  refine bodyPost_ret (v := .tuple #[(cellC P q pc).val, .bool true]) ?_ rfl ?_
  · rw [results_cell_tmp rfl]; go_simp
    rfl
  · exact atom_end HR9.out hg HT9.out (fun _ => HRd9.out) (fun hb => ⟨by simp, fun st a p => runL_char (tok_dot l) rfl⟩) (fun hb => by cases hb)
set_option maxHeartbeats 2000000 in
theorem atom_class (F : FacesS) (d : Nat) {l : List Int} {w : World} {g : Nat} (h : Rd w g (91 :: l)) :
    Calls Tryz.prog 123 #[.pointer (some ⟨g, 0, none⟩), .int .i64 (d : Int)] w (AtomV d g (91 :: l) w) := by
  have hg := h.lt
  have HR1 := Lib.hid (RoomAt.start hg)
  have hR1 := h.below ((Below.refl _ _).alloc (Nat.le_refl _) (.cells #[.int .i64 0, .slice none 0 0, .int .i64 0, .int .i64 0, .slice none 0 0] 27))
  have HN := Lib.hid (named_no F (l := 91 :: l) rfl hR1)
  have HX := Lib.hid (next_cons hR1)
  clear h hR1
  rcases hc : classL l with _ | ⟨s, l'⟩
  · have HC := Lib.hid fun w (h : Rd w g l) => show Calls Tryz.prog 144 #[.pointer (some ⟨g, 0, none⟩)] w fun e w' => ∃ q pc P, e = .returned (.tuple #[.slice P q pc, .bool false]) ∧ Off g w w' from class_bad F hc h
    have HE := Lib.hid (show tokL (91 :: l) = none by rw [tok_class, hc]; rfl)
    clear hc
    go_enter Tryz.func123, Tryz.ntmps123
    go_wp2_with (first
      | (go_at_call 139; (with_reducible refine HN.out.mono ?_); rintro e w1 ⟨rfl, rfl⟩)
      | (go_at_call 103; (with_reducible refine HX.out.mono ?_); rintro e w2 ⟨rfl, hr, ho⟩; have HR2 := Lib.hid (HR1.out.off hg ho); have HRd := Lib.hid hr; clear hr ho)
      | (go_at_call 144; (with_reducible refine (HC.out _ HRd.out).mono ?_); rintro e w3 ⟨q, pc, P, rfl, ho⟩; have HR3 := Lib.hid (HR2.out.off hg ho); clear ho)
      | (go_at_call 140; (with_reducible refine (char_any _ _ _ _).mono ?_); rintro e w9 ⟨rfl, hb⟩; have HR9 := Lib.hid (HR3.out.below hg hb); obtain ⟨q0, q1, q2, q3, q4, qf⟩ := HR9.out.facts; clear hb))
    obtain ⟨z0, z1, z2, z3, z4, _⟩ := HR9.out.cells (cellC P q pc)
    simp only [put5, cellC] at z0 z1 z2 z3 z4
    (try simp only [Exit.inBlock, Exit.then])
    refine bodyPost_ret (v := .tuple #[(cellC P q pc).val, .bool false]) ?_ rfl ?_
    · rw [results_cell_tmp rfl]; go_simp
      rfl
    · exact .inl ⟨_, rfl, fun st a p _ => runL_none HE.out (by simp), HR9.out.put hg (cellC P q pc)⟩
  · have HC := Lib.hid fun w (h : Rd w g l) => class_good F hc h
    have hlt := classL_lt hc
    have HE := Lib.hid (show tokL (91 :: l) = some (tokC s, l') by rw [tok_class, hc]; rfl)
    clear hc
    go_enter Tryz.func123, Tryz.ntmps123
    go_wp2_with (first
      | (go_at_call 139; (with_reducible refine HN.out.mono ?_); rintro e w1 ⟨rfl, rfl⟩)
      | (go_at_call 103; (with_reducible refine HX.out.mono ?_); rintro e w2 ⟨rfl, hr, ho⟩; have HR2 := Lib.hid (HR1.out.off hg ho); have HRd := Lib.hid hr; clear hr ho)
      | (go_at_call 144; (with_reducible refine (HC.out _ HRd.out).mono ?_); rintro e w3 ⟨P, q, pc, rfl, how, hr, ho⟩; have HR3 := Lib.hid (HR2.out.off hg ho); have HRd3 := Lib.hid hr; have HT := Lib.hid ((rowF_own how).mono fun b hb => show w.heap.size < b from Nat.lt_of_lt_of_le HR2.out.2.1 hb); clear hr ho how)
      | (go_at_call 140; (with_reducible refine (char_any _ _ _ _).mono ?_); rintro e w9 ⟨rfl, hb⟩; have HR9 := Lib.hid (HR3.out.below hg hb); have HRd9 := Lib.hid (HRd3.out.below hb); have HT9 := Lib.hid (HT.out.below hb); obtain ⟨q0, q1, q2, q3, q4, qf⟩ := HR9.out.facts; clear hb))
    obtain ⟨z0, z1, z2, z3, z4, _⟩ := HR9.out.cells (cellC P q pc)
    simp only [put5, cellC] at z0 z1 z2 z3 z4
    (try simp only [Exit.inBlock, Exit.then])
    refine bodyPost_ret (v := .tuple #[(cellC P q pc).val, .bool true]) ?_ rfl ?_
    · rw [results_cell_tmp rfl]; go_simp
      rfl
    · exact atom_end HR9.out hg HT9.out (fun _ => HRd9.out) (fun hb => ⟨by rw [List.length_cons]; omega, fun st a p => runL_char HE.out rfl⟩) (fun hb => by cases hb)
set_option maxHeartbeats 2000000 in
theorem atom_back (F : FacesS) (d : Nat) {l : List Int} (hpl : plainB (92 :: l) = true) {w : World} {g : Nat} (h : Rd w g (92 :: l)) :
    Calls Tryz.prog 123 #[.pointer (some ⟨g, 0, none⟩), .int .i64 (d : Int)] w (AtomV d g (92 :: l) w) := by
  have hg := h.lt
  have HR1 := Lib.hid (RoomAt.start hg)
  have hR1 := h.below ((Below.refl _ _).alloc (Nat.le_refl _) (.cells #[.int .i64 0, .slice none 0 0, .int .i64 0, .int .i64 0, .slice none 0 0] 27))
  have HN := Lib.hid (named_no F hpl hR1)
  have HX := Lib.hid (next_cons hR1)
  have HX2 := Lib.hid fun w (h : Rd w g l) => next_any h
  have hpts : ∀ c, itselfL (l.headD (-1)) = (c, true) → 0 ≤ c ∧ c ≤ 1114111 := fun c hc => itself_pts (fun hl => h.pts (l.headD (-1)) (by rcases l with _ | ⟨x, l⟩ <;> simp_all)) hc
  have hrun : ∀ c b, itselfL (l.headD (-1)) = (c, b) → (b = true → ∃ e l', l = e :: l' ∧ tokL (92 :: l) = some (tokC [(c, c)], l')) ∧ (b = false → tokL (92 :: l) = none) := by
    intro c b hc
    rcases l with _ | ⟨e, l⟩
    · have hc : ((-1 : Int), false) = (c, b) := hc
      injection hc with _ hb
      subst hb
      exact ⟨fun h => (by cases h), fun _ => rfl⟩
    · rw [List.headD_cons] at hc
      refine ⟨fun hb => ⟨e, l, rfl, ?_⟩, fun hb => ?_⟩
      · subst hb; rw [tok_back, escL_itself hc]; rfl
      · subst hb
        have hl : letterB e = false := by simpa [plainB] using hpl
        rw [tok_back, escL_none hc hl]; rfl
  rcases hi : itselfL (l.headD (-1)) with ⟨c, b⟩
  have HI := Lib.hid fun w => itself_any (l.headD (-1)) w
  rw [hi] at HI
  have HPT := Lib.hid (hpts c)
  have HRUN := Lib.hid (hrun c b hi)
  rw [hi] at HPT
  obtain ⟨y, hy⟩ : ∃ y, y = l.headD (-1) := ⟨_, rfl⟩
  rw [← hy] at HI HX2
  clear h hR1 hpl hpts hrun hi hy
  go_enter Tryz.func123, Tryz.ntmps123
  go_wp2_with (first
    | (go_at_call 139; (with_reducible refine HN.out.mono ?_); rintro e w1 ⟨rfl, rfl⟩)
    | (go_at_call 103; (with_reducible refine HX.out.mono ?_); rintro e w2 ⟨rfl, hr, ho⟩; have HR2 := Lib.hid (HR1.out.off hg ho); have HRd := Lib.hid hr; clear hr ho)
    | (go_at_call 103; (with_reducible refine (HX2.out _ HRd.out).mono ?_); rintro e w3 ⟨rfl, hr, ho⟩; have HR2b := Lib.hid (HR2.out.off hg ho); have HRdb := Lib.hid hr; clear hr ho)
    | (go_at_call 145; (with_reducible refine (HI.out _).mono ?_); rintro e w4 ⟨rfl, rfl⟩)
    | (go_at_call 143; (with_reducible refine (one_any _ _).mono ?_); rintro e w3 ⟨rfl, hb⟩; have HR3 := Lib.hid (HR2b.out.below hg hb); have HRd3 := Lib.hid (HRdb.out.below hb); clear hb)
    | (go_at_call 107; (with_reducible refine (of_one F _ _).mono ?_); rintro e w5 ⟨P, q, pc, t, rfl, hrow, hb, ht⟩; have HR4 := Lib.hid (HR3.out.below hg hb); have HRd4 := Lib.hid (HRd3.out.below hb); have HTT := Lib.hid ht; have HT := Lib.hid (hrow.mono fun b (hb : w3.heap.size < b) => show w.heap.size < b from Nat.lt_trans HR3.out.2.1 hb); clear hrow hb ht)
    | (go_at_call 140; (with_reducible refine (char_any _ _ _ _).mono ?_); rintro e w9 ⟨rfl, hb⟩; have HR9 := Lib.hid (HR4.out.below hg hb); have HRd9 := Lib.hid (HRd4.out.below hb); have HT9 := Lib.hid (HT.out.below hb); obtain ⟨q0, q1, q2, q3, q4, qf⟩ := HR9.out.facts; clear hb))
  obtain ⟨z0, z1, z2, z3, z4, _⟩ := HR9.out.cells (cellC P q pc)
  simp only [put5, cellC] at z0 z1 z2 z3 z4
  (try simp only [Exit.inBlock, Exit.then])
  refine bodyPost_ret (v := .tuple #[(cellC P q pc).val, .bool b]) ?_ rfl ?_
  · rw [results_cell_tmp rfl]; go_simp
    rfl
  · exact atom_end HR9.out hg HT9.out (fun hb => HRd9.out) (fun hb => by
      obtain ⟨e, l', he, ht⟩ := HRUN.out.1 hb
      have h3 := HTT.out (HPT.out (by rw [hb]))
      subst he; subst h3
      exact ⟨by simp only [List.tail_cons, List.length_cons]; omega, fun st a p => runL_char ht rfl⟩) (fun hb st a p => runL_none (HRUN.out.2 hb) (by simp))
end Go.Proofs.YtaapbmdojkjphaaGreat
namespace Go.Proofs.YtaapbmdojkjphaaGreat
open Go Go.RowKit
set_option linter.unusedVariables false
set_option maxRecDepth 20000
def PatV (d g : Nat) (l : List Int) (w : World) (e : Ending) (w' : World) : Prop :=
  (∃ x : NV, e = .returned (.tuple #[x.val, .bool false]) ∧ (∀ st, st.length = d → runL l st .nil .nil false = none) ∧ Off g w w') ∨
  (∃ (x : NV) (n : Wood) (l' : List Int), e = .returned (.tuple #[x.val, .bool true]) ∧ NodesIn (fun b => w.heap.size ≤ b) w' [x] n ∧ l'.length ≤ l.length ∧ (l' = [] ∨ ∃ r, l' = 41 :: r) ∧ (∀ st, st.length = d → runL l st .nil .nil false = shutL l' st n) ∧ Rd w' g l' ∧ Off g w w')
theorem cell_drew (w : World) (p : Addr) : w.drew.cell? p = w.cell? p := rfl
theorem Rd.drew {w : World} {g : Nat} {l : List Int} (h : Rd w g l) : Rd w.drew g l := h.drewN 1
def zeroNV : NV := ⟨0, none, 0, 0, 0, 0, none, 0, 0⟩
set_option maxHeartbeats 2000000 in
theorem group_deep {d : Nat} (hd : 10 ≤ d) (l : List Int) {w : World} {g : Nat} (hg : g < w.heap.size) :
    Calls Tryz.prog 141 #[.pointer (some ⟨g, 0, none⟩), .int .i64 ((d : Int) + 1)] w (AtomV d g (40 :: l) w) := by
  have HR9 := Lib.hid (RoomAt.start hg)
  obtain ⟨q0, q1, q2, q3, q4, qf⟩ := HR9.out.facts
  have h10 : (10 : Int) < (d : Int) + 1 := by omega
  go_enter Tryz.func141, Tryz.ntmps141
  go_wp2
  (try simp only [Exit.inBlock, Exit.then])
  refine bodyPost_ret (v := .tuple #[zeroNV.val, .bool false]) ?_ rfl ?_
  · rw [results_cell_tmp rfl]; go_simp
    rfl
  · refine .inl ⟨_, rfl, fun st a p hst => ?_, HR9.out.1⟩
    rw [runL_paren (tok_open l) rfl rfl, if_neg (by omega)]
set_option maxHeartbeats 2000000 in
theorem group_in {d : Nat} (hd : d < 10) {l : List Int} {w : World} {g : Nat} (h : Rd w g l) (HP : ∀ w, Rd w g l → Calls Tryz.prog 38 #[.pointer (some ⟨g, 0, none⟩), .int .i64 ((d : Int) + 1)] w (PatV (d + 1) g l w)) :
    Calls Tryz.prog 141 #[.pointer (some ⟨g, 0, none⟩), .int .i64 ((d : Int) + 1)] w (AtomV d g (40 :: l) w) := by
  have hg := h.lt
  have HR1 := Lib.hid (RoomAt.start hg)
  have hR1 := h.below ((Below.refl _ _).alloc (Nat.le_refl _) (.cells #[.int .i64 0, .slice none 0 0, .int .i64 0, .int .i64 0, .slice none 0 0] 27))
  have h10 : ¬ (10 : Int) < (d : Int) + 1 := by omega
  have HPt := Lib.hid (HP _ hR1)
  clear h HP hR1
  go_enter Tryz.func141, Tryz.ntmps141
  go_wp2_with (go_at_call 38; (with_reducible refine HPt.out.mono ?_); rintro e w2 hv; rcases hv with ⟨x, rfl, hn, ho⟩ | ⟨x, n, l', rfl, hN, hlen, hs, hrun, hr, ho⟩ <;> simp only [NV.val])
  · have HR2 := Lib.hid (HR1.out.off hg ho)
    have HR3 := Lib.hid (HR2.out.alloc hg (.cells #[.int .i64 x.op, .slice x.A x.ns x.cs, .int .i64 x.mn, .int .i64 x.mx, .slice x.D x.nk x.ck] 27))
    obtain ⟨q0, q1, q2, q3, q4, qf⟩ := HR3.out.facts
    have HNN := Lib.hid hn
    clear hn ho
    go_region
    go_wp2
    obtain ⟨z0, z1, z2, z3, z4, _⟩ := HR3.out.cells x
    simp only [put5] at z0 z1 z2 z3 z4
    rw [← cell_drew] at z0 z1 z2 z3 z4
    (try simp only [Exit.inBlock, Exit.then])
    refine bodyPost_ret (v := .tuple #[x.val, .bool false]) ?_ rfl ?_
    · rw [results_cell_tmp rfl]; go_simp
      rfl
    · refine .inl ⟨_, rfl, fun st a p hst => ?_, (HR3.out.put hg x).drewN 1⟩
      rw [runL_paren (tok_open l) rfl rfl, if_pos (by omega)]
      exact HNN.out _ (by rw [List.length_cons, hst])
  · have HR2 := Lib.hid (HR1.out.off hg ho)
    have HR3 := Lib.hid (HR2.out.alloc hg (.cells #[.int .i64 x.op, .slice x.A x.ns x.cs, .int .i64 x.mn, .int .i64 x.mx, .slice x.D x.nk x.ck] 27))
    have HRd3 := Lib.hid (hr.below ((Below.refl _ _).alloc (Nat.le_refl _) (.cells #[.int .i64 x.op, .slice x.A x.ns x.cs, .int .i64 x.mn, .int .i64 x.mx, .slice x.D x.nk x.ck] 27)))
    have HH := Lib.hid (And.intro hN (And.intro hlen hrun))
    obtain ⟨q0, q1, q2, q3, q4, qf⟩ := HR3.out.facts
    clear hN hlen hrun hr ho
    rcases hs with rfl | ⟨r, rfl⟩
    · have HT := Lib.hid fun w (h : Rd w g []) => take_no (x := 41) h (by decide)
      go_region_with (first
        | (go_at_call 61; (with_reducible refine (HT.out _ HRd3.out).mono ?_); rintro e w4 ⟨rfl, rfl⟩)
        | (go_at_call 61; (with_reducible refine (HT.out _ HRd3.out.drew).mono ?_); rintro e w4 ⟨rfl, rfl⟩))
      all_goals
        go_wp2
        obtain ⟨z0, z1, z2, z3, z4, _⟩ := HR3.out.cells x
        simp only [put5] at z0 z1 z2 z3 z4
        rw [← cell_drew] at z0 z1 z2 z3 z4
        (try simp only [Exit.inBlock, Exit.then])
        refine bodyPost_ret (v := .tuple #[x.val, .bool false]) ?_ rfl ?_
        · rw [results_cell_tmp rfl]; go_simp
          rfl
        · refine .inl ⟨_, rfl, fun st a p hst => ?_, (HR3.out.put hg x).drewN 1⟩
          rw [runL_paren (tok_open l) rfl rfl, if_pos (by omega)]
          exact HH.out.2.2 _ (by rw [List.length_cons, hst])
    · have HT := Lib.hid fun w (h : Rd w g (41 :: r)) => take_yes (x := 41) h
      go_region_with (first
        | (go_at_call 61; (with_reducible refine (HT.out _ HRd3.out.drew).mono ?_); rintro e w4 ⟨rfl, hr, ho⟩; have HO4 := Lib.hid (And.intro hr ho); have HR4 := Lib.hid (HR3.out.off hg (((Off.refl g _).drewN 1).trans ho)); obtain ⟨p0, p1, p2, p3, p4, pf⟩ := HR4.out.facts; obtain ⟨b0, b1, b2, b3, b4, bf⟩ := box_facts ((ho.2 w2.heap.size (by simp) (by have := HR2.out.2.1; omega)).trans (heap_alloc_new w2 (.cells #[.int .i64 x.op, .slice x.A x.ns x.cs, .int .i64 x.mn, .int .i64 x.mx, .slice x.D x.nk x.ck] 27))); clear hr ho bf))
      all_goals
        go_wp2
        obtain ⟨z0, z1, z2, z3, z4, _⟩ := HR4.out.cells x
        simp only [put5] at z0 z1 z2 z3 z4
        (try simp only [Exit.inBlock, Exit.then])
        refine bodyPost_ret (v := .tuple #[x.val, .bool true]) ?_ rfl ?_
        · rw [results_cell_tmp rfl]; go_simp
          rfl
        · refine .inr ⟨x, n, r, rfl, HR4.out.nodes x (HH.out.1.move ?_ fun b hF hlt => ?_), ?_, fun st a p hst => ?_, HR4.out.rd hg HO4.out.1 x, HR4.out.put hg x⟩
          · exact Nat.le_trans (by simp) HO4.out.2.1.size
          · have hF : (w.alloc (.cells #[.int .i64 0, .slice none 0 0, .int .i64 0, .int .i64 0, .slice none 0 0] 27)).heap.size ≤ b := hF
            have hsz : (w.alloc (.cells #[.int .i64 0, .slice none 0 0, .int .i64 0, .int .i64 0, .slice none 0 0] 27)).heap.size = w.heap.size + 1 := by simp
            exact ⟨by omega, (HO4.out.2.2 b (by simp; omega) (by omega)).trans (Below.heap_alloc w2 _ b hlt)⟩
          · have := HH.out.2.1
            rw [List.length_cons] at this ⊢
            omega
          · rw [runL_paren (tok_open l) rfl rfl, if_pos (by omega)]
            exact HH.out.2.2 ((a, p) :: st) (by rw [List.length_cons, hst])
theorem group_any (d : Nat) {l : List Int} {w : World} {g : Nat} (h : Rd w g l) (HP : d < 10 → ∀ w, Rd w g l → Calls Tryz.prog 38 #[.pointer (some ⟨g, 0, none⟩), .int .i64 ((d : Int) + 1)] w (PatV (d + 1) g l w)) :
    Calls Tryz.prog 141 #[.pointer (some ⟨g, 0, none⟩), .int .i64 ((d : Int) + 1)] w (AtomV d g (40 :: l) w) := by
  by_cases hd : d < 10
  · exact group_in hd h (HP hd)
  · exact group_deep (by omega) l h.lt
set_option maxHeartbeats 2000000 in
theorem atom_group (F : FacesS) (d : Nat) (hd : d ≤ 10) {l : List Int} {w : World} {g : Nat} (h : Rd w g (40 :: l)) (HP : d < 10 → ∀ w, Rd w g l → Calls Tryz.prog 38 #[.pointer (some ⟨g, 0, none⟩), .int .i64 ((d : Int) + 1)] w (PatV (d + 1) g l w)) :
    Calls Tryz.prog 123 #[.pointer (some ⟨g, 0, none⟩), .int .i64 (d : Int)] w (AtomV d g (40 :: l) w) := by
  have hg := h.lt
  have HR1 := Lib.hid (RoomAt.start hg)
  have hR1 := h.below ((Below.refl _ _).alloc (Nat.le_refl _) (.cells #[.int .i64 0, .slice none 0 0, .int .i64 0, .int .i64 0, .slice none 0 0] 27))
  have HN := Lib.hid (named_no F (l := 40 :: l) rfl hR1)
  have HX := Lib.hid (next_cons hR1)
  have HG := Lib.hid fun w (h : Rd w g l) => group_any d h HP
  have hw1 : IntKind.i64.wrap ((d : Int) + 1) = (d : Int) + 1 := by rw [IntKind.wrap_i64]; omega
  clear h hR1 HP
  go_enter Tryz.func123, Tryz.ntmps123
  go_wp2_with (first
    | (go_at_call 139; (with_reducible refine HN.out.mono ?_); rintro e w1 ⟨rfl, rfl⟩)
    | (go_at_call 103; (with_reducible refine HX.out.mono ?_); rintro e w2 ⟨rfl, hr, ho⟩; have HR2 := Lib.hid (HR1.out.off hg ho); have HRd := Lib.hid hr; clear hr ho)
    | (go_at_call 141; (with_reducible refine (HG.out _ HRd.out).mono ?_); rintro e w3 hv; rcases hv with ⟨x, rfl, hn, ho⟩ | ⟨x, n, l', rfl, hN, hlen, hrun, hr, ho⟩ <;> (have HR9 := Lib.hid (HR2.out.off hg ho); obtain ⟨q0, q1, q2, q3, q4, qf⟩ := HR9.out.facts; clear ho; simp only [NV.val])))
  · obtain ⟨z0, z1, z2, z3, z4, _⟩ := HR9.out.cells x
    simp only [put5] at z0 z1 z2 z3 z4
    (try simp only [Exit.inBlock, Exit.then])
    refine bodyPost_ret (v := .tuple #[x.val, .bool false]) ?_ rfl ?_
    · rw [results_cell_tmp rfl]; go_simp
      rfl
    · exact .inl ⟨x, rfl, hn, HR9.out.put hg x⟩
  · obtain ⟨z0, z1, z2, z3, z4, _⟩ := HR9.out.cells x
    simp only [put5] at z0 z1 z2 z3 z4
    (try simp only [Exit.inBlock, Exit.then])
    refine bodyPost_ret (v := .tuple #[x.val, .bool true]) ?_ rfl ?_
    · rw [results_cell_tmp rfl]; go_simp
      rfl
    · refine .inr ⟨x, n, l', rfl, HR9.out.nodes x (hN.move (Nat.le_refl _) fun b hF _ => ⟨?_, rfl⟩), hlen, hrun, HR9.out.rd hg hr x, HR9.out.put hg x⟩
      exact Nat.lt_of_lt_of_le HR2.out.2.1 hF
theorem atom_any (F : FacesS) (d : Nat) (hd : d ≤ 10) {c : Int} {l : List Int} (hs : c ≠ 94 ∧ c ≠ 36 ∧ c ≠ 124 ∧ c ≠ 41) {w : World} {g : Nat} (h : Rd w g (c :: l)) (HP : d < 10 → ∀ w, Rd w g l → Calls Tryz.prog 38 #[.pointer (some ⟨g, 0, none⟩), .int .i64 ((d : Int) + 1)] w (PatV (d + 1) g l w)) :
    Calls Tryz.prog 123 #[.pointer (some ⟨g, 0, none⟩), .int .i64 (d : Int)] w (AtomV d g (c :: l) w) := by
  by_cases h1 : c = 40
  · subst h1; exact atom_group F d hd h HP
  by_cases h2 : c = 46
  · subst h2; exact atom_dot F d h
  by_cases h3 : c = 91
  · subst h3; exact atom_class F d h
  by_cases h4 : c = 92
  · subst h4
    cases hp : plainB (92 :: l) with
    | true => exact atom_back F d hp h
    | false =>
      rcases l with _ | ⟨y, l⟩
      · cases hp
      · exact atom_letter F d (by simpa [plainB] using hp) h
  · exact atom_plain F d h1 h2 h3 h4 h hs
end Go.Proofs.YtaapbmdojkjphaaGreat
namespace Go.Proofs.YtaapbmdojkjphaaGreat
open Go Go.RowKit
set_option linter.unusedVariables false
set_option maxRecDepth 20000
def PieceV (d g : Nat) (l : List Int) (w : World) (e : Ending) (w' : World) : Prop :=
  (∃ x : NV, e = .returned (.tuple #[x.val, .bool false]) ∧ (∀ st a p, st.length = d → runL l st a p false = none) ∧ Off g w w') ∨
  (∃ (x : NV) (n : Wood) (l' : List Int), e = .returned (.tuple #[x.val, .bool true]) ∧ NodesIn (fun b => w.heap.size ≤ b) w' [x] n ∧ l'.length < l.length ∧ (∀ st a p, st.length = d → runL l st a p false = runL l' st a (p.app n) false) ∧ Rd w' g l' ∧ Off g w w')
def leafNV (op : Int) : NV := ⟨op, none, 0, 0, 0, 0, none, 0, 0⟩
theorem leafN (F : Nat → Prop) (w : World) (op : Int) : NodesIn F w [leafNV op] (leaf op []) := ⟨⟨rfl, rfl, rfl⟩, ⟨rowF_nil F w, Nat.le_refl 0⟩, kids_nil F w, trivial⟩
set_option maxHeartbeats 2000000 in
theorem piece_begin (d : Nat) {l : List Int} {w : World} {g : Nat} (h : Rd w g (94 :: l)) :
    Calls Tryz.prog 102 #[.pointer (some ⟨g, 0, none⟩), .int .i64 (d : Int)] w (PieceV d g (94 :: l) w) := by
  have hg := h.lt
  have HR1 := Lib.hid (RoomAt.start hg)
  have hR1 := h.below ((Below.refl _ _).alloc (Nat.le_refl _) (.cells #[.int .i64 0, .slice none 0 0, .int .i64 0, .int .i64 0, .slice none 0 0] 27))
  have HT := Lib.hid (take_yes hR1)
  clear h hR1
  go_enter Tryz.func102, Tryz.ntmps102
  go_wp2_with (go_at_call 61; (with_reducible refine HT.out.mono ?_); rintro e w2 ⟨rfl, hr, ho⟩; have HR9 := Lib.hid (HR1.out.off hg ho); have HRd := Lib.hid hr; obtain ⟨q0, q1, q2, q3, q4, qf⟩ := HR9.out.facts; clear hr ho)
  obtain ⟨z0, z1, z2, z3, z4, _⟩ := HR9.out.cells (leafNV 2)
  simp only [put5, leafNV] at z0 z1 z2 z3 z4
  (try simp only [Exit.inBlock, Exit.then])
  refine bodyPost_ret (v := .tuple #[(leafNV 2).val, .bool true]) ?_ rfl ?_
  · rw [results_cell_tmp rfl]; go_simp
    rfl
  · exact .inr ⟨_, leaf 2 [], l, rfl, HR9.out.nodes (leafNV 2) (leafN _ _ _), by simp, fun st a p _ => runL_begin (tok_begin l) rfl rfl, HR9.out.rd hg HRd.out (leafNV 2), HR9.out.put hg (leafNV 2)⟩
set_option maxHeartbeats 2000000 in
theorem piece_end (d : Nat) {l : List Int} {w : World} {g : Nat} (h : Rd w g (36 :: l)) :
    Calls Tryz.prog 102 #[.pointer (some ⟨g, 0, none⟩), .int .i64 (d : Int)] w (PieceV d g (36 :: l) w) := by
  have hg := h.lt
  have HR1 := Lib.hid (RoomAt.start hg)
  have hR1 := h.below ((Below.refl _ _).alloc (Nat.le_refl _) (.cells #[.int .i64 0, .slice none 0 0, .int .i64 0, .int .i64 0, .slice none 0 0] 27))
  have HT0 := Lib.hid (take_no (x := 94) hR1 (by rw [List.headD_cons]; decide))
  have HT := Lib.hid (take_yes hR1)
  clear h hR1
  go_enter Tryz.func102, Tryz.ntmps102
  go_wp2_with (first
    | (go_at_call 61; (with_reducible refine HT0.out.mono ?_); rintro e w1 ⟨rfl, rfl⟩)
    | (go_at_call 61; (with_reducible refine HT.out.mono ?_); rintro e w2 ⟨rfl, hr, ho⟩; have HR9 := Lib.hid (HR1.out.off hg ho); have HRd := Lib.hid hr; obtain ⟨q0, q1, q2, q3, q4, qf⟩ := HR9.out.facts; clear hr ho))
  obtain ⟨z0, z1, z2, z3, z4, _⟩ := HR9.out.cells (leafNV 3)
  simp only [put5, leafNV] at z0 z1 z2 z3 z4
  (try simp only [Exit.inBlock, Exit.then])
  refine bodyPost_ret (v := .tuple #[(leafNV 3).val, .bool true]) ?_ rfl ?_
  · rw [results_cell_tmp rfl]; go_simp
    rfl
  · exact .inr ⟨_, leaf 3 [], l, rfl, HR9.out.nodes (leafNV 3) (leafN _ _ _), by simp, fun st a p _ => runL_end (tok_end l) rfl rfl, HR9.out.rd hg HRd.out (leafNV 3), HR9.out.put hg (leafNV 3)⟩
def repNV (w2 : World) (mn mx : Int) : NV := ⟨6, none, 0, 0, mn, mx, some ⟨w2.heap.size + 1, 0, none⟩, 1, 1⟩
section
variable {d g : Nat} {c : Int} {l : List Int} {w w2 a : World} {x : NV} {n : Wood}
theorem rep_frame (h2 : RoomAt g w w2) (hg : g < w.heap.size) (ho : Off g (((w2.alloc (.cells #[.int .i64 x.op, .slice x.A x.ns x.cs, .int .i64 x.mn, .int .i64 x.mx, .slice x.D x.nk x.ck] 27)).alloc (.cells #[.int .i64 x.op, .slice x.A x.ns x.cs, .int .i64 x.mn, .int .i64 x.mx, .slice x.D x.nk x.ck] 27)).alloc (.cells #[.int .i64 6, .slice none 0 0, .int .i64 0, .int .i64 0, .slice (some ⟨w2.heap.size + 1, 0, none⟩) 1 1] 27)) a) (mn mx : Int) : RoomAt g w a ∧ RoomAt g w ((a.setCell ⟨w2.heap.size + 1 + 1, 2, none⟩ (.int .i64 mn)).setCell ⟨w2.heap.size + 1 + 1, 3, none⟩ (.int .i64 mx)) ∧ a.heap[w2.heap.size + 1 + 1]? = some (.cells #[.int .i64 6, .slice none 0 0, .int .i64 0, .int .i64 0, .slice (some ⟨w2.heap.size + 1, 0, none⟩) 1 1] 27 (0, 0)) ∧
    (((a.setCell ⟨w2.heap.size + 1 + 1, 2, none⟩ (.int .i64 mn)).setCell ⟨w2.heap.size + 1 + 1, 3, none⟩ (.int .i64 mx))).heap[w2.heap.size + 1]? = some (.cells x.cells.toArray 27 (0, 0)) ∧ (∀ b, b < w2.heap.size → b ≠ g → (((a.setCell ⟨w2.heap.size + 1 + 1, 2, none⟩ (.int .i64 mn)).setCell ⟨w2.heap.size + 1 + 1, 3, none⟩ (.int .i64 mx))).heap[b]? = w2.heap[b]?) ∧ w2.heap.size + 3 ≤ a.heap.size := by
  have s3 : ((((w2.alloc (.cells #[.int .i64 x.op, .slice x.A x.ns x.cs, .int .i64 x.mn, .int .i64 x.mx, .slice x.D x.nk x.ck] 27)).alloc (.cells #[.int .i64 x.op, .slice x.A x.ns x.cs, .int .i64 x.mn, .int .i64 x.mx, .slice x.D x.nk x.ck] 27)).alloc (.cells #[.int .i64 6, .slice none 0 0, .int .i64 0, .int .i64 0, .slice (some ⟨w2.heap.size + 1, 0, none⟩) 1 1] 27))).heap.size = w2.heap.size + 3 := by simp
  have e1 : ((((w2.alloc (.cells #[.int .i64 x.op, .slice x.A x.ns x.cs, .int .i64 x.mn, .int .i64 x.mx, .slice x.D x.nk x.ck] 27)).alloc (.cells #[.int .i64 x.op, .slice x.A x.ns x.cs, .int .i64 x.mn, .int .i64 x.mx, .slice x.D x.nk x.ck] 27)).alloc (.cells #[.int .i64 6, .slice none 0 0, .int .i64 0, .int .i64 0, .slice (some ⟨w2.heap.size + 1, 0, none⟩) 1 1] 27))).heap[w2.heap.size + 1 + 1]? = some (.cells #[.int .i64 6, .slice none 0 0, .int .i64 0, .int .i64 0, .slice (some ⟨w2.heap.size + 1, 0, none⟩) 1 1] 27 (0, 0)) := by
    have := heap_alloc_new ((w2.alloc (.cells #[.int .i64 x.op, .slice x.A x.ns x.cs, .int .i64 x.mn, .int .i64 x.mx, .slice x.D x.nk x.ck] 27)).alloc (.cells #[.int .i64 x.op, .slice x.A x.ns x.cs, .int .i64 x.mn, .int .i64 x.mx, .slice x.D x.nk x.ck] 27)) (.cells #[.int .i64 6, .slice none 0 0, .int .i64 0, .int .i64 0, .slice (some ⟨w2.heap.size + 1, 0, none⟩) 1 1] 27)
    rwa [show ((w2.alloc (.cells #[.int .i64 x.op, .slice x.A x.ns x.cs, .int .i64 x.mn, .int .i64 x.mx, .slice x.D x.nk x.ck] 27)).alloc (.cells #[.int .i64 x.op, .slice x.A x.ns x.cs, .int .i64 x.mn, .int .i64 x.mx, .slice x.D x.nk x.ck] 27)).heap.size = w2.heap.size + 1 + 1 by simp] at this
  have e2 : ((((w2.alloc (.cells #[.int .i64 x.op, .slice x.A x.ns x.cs, .int .i64 x.mn, .int .i64 x.mx, .slice x.D x.nk x.ck] 27)).alloc (.cells #[.int .i64 x.op, .slice x.A x.ns x.cs, .int .i64 x.mn, .int .i64 x.mx, .slice x.D x.nk x.ck] 27)).alloc (.cells #[.int .i64 6, .slice none 0 0, .int .i64 0, .int .i64 0, .slice (some ⟨w2.heap.size + 1, 0, none⟩) 1 1] 27))).heap[w2.heap.size + 1]? = some (.cells x.cells.toArray 27 (0, 0)) := by
    have := heap_alloc_new (w2.alloc (.cells #[.int .i64 x.op, .slice x.A x.ns x.cs, .int .i64 x.mn, .int .i64 x.mx, .slice x.D x.nk x.ck] 27)) (.cells #[.int .i64 x.op, .slice x.A x.ns x.cs, .int .i64 x.mn, .int .i64 x.mx, .slice x.D x.nk x.ck] 27)
    rw [show (w2.alloc (.cells #[.int .i64 x.op, .slice x.A x.ns x.cs, .int .i64 x.mn, .int .i64 x.mx, .slice x.D x.nk x.ck] 27)).heap.size = w2.heap.size + 1 by simp] at this
    exact (Below.heap_alloc _ _ _ (by simp)).trans this
  have e3 : ∀ b, b < w2.heap.size → ((((w2.alloc (.cells #[.int .i64 x.op, .slice x.A x.ns x.cs, .int .i64 x.mn, .int .i64 x.mx, .slice x.D x.nk x.ck] 27)).alloc (.cells #[.int .i64 x.op, .slice x.A x.ns x.cs, .int .i64 x.mn, .int .i64 x.mx, .slice x.D x.nk x.ck] 27)).alloc (.cells #[.int .i64 6, .slice none 0 0, .int .i64 0, .int .i64 0, .slice (some ⟨w2.heap.size + 1, 0, none⟩) 1 1] 27))).heap[b]? = w2.heap[b]? := fun b hb => (Below.heap_alloc _ _ _ (by simp; omega)).trans ((Below.heap_alloc _ _ _ (by simp; omega)).trans (Below.heap_alloc _ _ _ hb))
  have hsz : w2.heap.size + 3 ≤ a.heap.size := by have := ho.1.size; omega
  have hlt := h2.2.1
  have k : ∀ b, b ≠ w2.heap.size + 1 + 1 → (((a.setCell ⟨w2.heap.size + 1 + 1, 2, none⟩ (.int .i64 mn)).setCell ⟨w2.heap.size + 1 + 1, 3, none⟩ (.int .i64 mx))).heap[b]? = a.heap[b]? := fun b hb => (Below.heap_setCell _ _ _ _ hb).trans (Below.heap_setCell _ _ _ _ hb)
  have ra : RoomAt g w a := (((h2.alloc hg (.cells #[.int .i64 x.op, .slice x.A x.ns x.cs, .int .i64 x.mn, .int .i64 x.mx, .slice x.D x.nk x.ck] 27)).alloc hg (.cells #[.int .i64 x.op, .slice x.A x.ns x.cs, .int .i64 x.mn, .int .i64 x.mx, .slice x.D x.nk x.ck] 27)).alloc hg (.cells #[.int .i64 6, .slice none 0 0, .int .i64 0, .int .i64 0, .slice (some ⟨w2.heap.size + 1, 0, none⟩) 1 1] 27)).off hg ho
  refine ⟨ra, ⟨ra.1.grown hg (((Below.refl _ _).setCell (p := ⟨w2.heap.size + 1 + 1, 2, none⟩) (by show w.heap.size ≤ w2.heap.size + 1 + 1; omega) _).setCell (p := ⟨w2.heap.size + 1 + 1, 3, none⟩) (by show w.heap.size ≤ w2.heap.size + 1 + 1; omega) _), by simp; omega, (k _ (by omega)).trans ra.2.2⟩, (ho.2 _ (by omega) (by omega)).trans e1, (k _ (by omega)).trans ((ho.2 _ (by omega) (by omega)).trans e2), fun b hb hne => (k _ (by omega)).trans ((ho.2 _ (by omega) hne).trans (e3 b hb)), hsz⟩
theorem rep_nodes (h2 : RoomAt g w w2) (hg : g < w.heap.size) (ho : Off g (((w2.alloc (.cells #[.int .i64 x.op, .slice x.A x.ns x.cs, .int .i64 x.mn, .int .i64 x.mx, .slice x.D x.nk x.ck] 27)).alloc (.cells #[.int .i64 x.op, .slice x.A x.ns x.cs, .int .i64 x.mn, .int .i64 x.mx, .slice x.D x.nk x.ck] 27)).alloc (.cells #[.int .i64 6, .slice none 0 0, .int .i64 0, .int .i64 0, .slice (some ⟨w2.heap.size + 1, 0, none⟩) 1 1] 27)) a) (mn mx : Int) {F : Nat → Prop} (hF : ∀ b, F b → w.heap.size < b) (hN : NodesIn F w2 [x] n) : NodesIn (fun b => w.heap.size < b) ((a.setCell ⟨w2.heap.size + 1 + 1, 2, none⟩ (.int .i64 mn)).setCell ⟨w2.heap.size + 1 + 1, 3, none⟩ (.int .i64 mx)) [repNV w2 mn mx] (.cons 6 [] mn mx n .nil) := by
  obtain ⟨_, _, _, e2, e3, hsz⟩ := rep_frame (x := x) h2 hg ho mn mx
  have hlt := h2.2.1
  have hn : NodesIn (fun b => w.heap.size < b) ((a.setCell ⟨w2.heap.size + 1 + 1, 2, none⟩ (.int .i64 mn)).setCell ⟨w2.heap.size + 1 + 1, 3, none⟩ (.int .i64 mx)) [x] n := hN.move (by simp; omega) fun b hb hlt => ⟨hF b hb, e3 b hlt (by have := hF b hb; omega)⟩
  refine ⟨⟨rfl, rfl, rfl⟩, ⟨rowF_nil _ _, Nat.le_refl _⟩, ⟨hN.len, fun _ => ⟨w2.heap.size + 1, 0, rfl, by show w.heap.size < w2.heap.size + 1; omega, by simp; omega, hn.wood fun j y hy i v hv => ?_⟩⟩, trivial⟩
  rcases j with _ | j
  · simp only [List.getElem?_cons_zero, Option.some.injEq] at hy
    subst hy
    rw [Nat.zero_mul, Nat.add_zero, Nat.zero_add, cell_of_row _ (w2.heap.size + 1) i _ _ (0, 0) e2]
    simpa using hv
  · simp at hy
end
section
variable {d g : Nat} {c : Int} {l : List Int} {w : World}
set_option maxHeartbeats 8000000 in
theorem piece_atom (h : Rd w g (c :: l)) (h94 : c ≠ 94) (h36 : c ≠ 36) (HA : ∀ w, Rd w g (c :: l) → Calls Tryz.prog 123 #[.pointer (some ⟨g, 0, none⟩), .int .i64 (d : Int)] w (AtomV d g (c :: l) w)) :
    Calls Tryz.prog 102 #[.pointer (some ⟨g, 0, none⟩), .int .i64 (d : Int)] w (PieceV d g (c :: l) w) := by
  have hg := h.lt
  have HR1 := Lib.hid (RoomAt.start hg)
  have hR1 := h.below ((Below.refl _ _).alloc (Nat.le_refl _) (.cells #[.int .i64 0, .slice none 0 0, .int .i64 0, .int .i64 0, .slice none 0 0] 27))
  have HT0 := Lib.hid (take_no (x := 94) hR1 (by rw [List.headD_cons]; exact h94))
  have HT1 := Lib.hid (take_no (x := 36) hR1 (by rw [List.headD_cons]; exact h36))
  have HAt := Lib.hid (HA _ hR1)
  clear h hR1 HA h94 h36
  go_enter Tryz.func102, Tryz.ntmps102
  go_wp2_with (first
    | (go_at_call 61; (with_reducible refine HT0.out.mono ?_); rintro e w1 ⟨rfl, rfl⟩)
    | (go_at_call 61; (with_reducible refine HT1.out.mono ?_); rintro e w1 ⟨rfl, rfl⟩)
    | (go_at_call 123; (with_reducible refine HAt.out.mono ?_); rintro e w2 hv; rcases hv with ⟨x, rfl, hn, ho⟩ | ⟨x, n, l1, rfl, hN, hlen, hrun, hr, ho⟩ <;> (have HR2 := Lib.hid (HR1.out.off hg ho); have HR3 := Lib.hid (HR2.out.alloc hg (.cells #[.int .i64 x.op, .slice x.A x.ns x.cs, .int .i64 x.mn, .int .i64 x.mx, .slice x.D x.nk x.ck] 27)); obtain ⟨q0, q1, q2, q3, q4, qf⟩ := HR3.out.facts; clear ho; simp only [NV.val])))
  · obtain ⟨z0, z1, z2, z3, z4, _⟩ := HR3.out.cells zeroNV
    simp only [put5, zeroNV] at z0 z1 z2 z3 z4
    (try simp only [Exit.inBlock, Exit.then])
    refine bodyPost_ret (v := .tuple #[zeroNV.val, .bool false]) ?_ rfl ?_
    · rw [results_cell_tmp rfl]; go_simp
      rfl
    · exact .inl ⟨_, rfl, hn, HR3.out.put hg zeroNV⟩
  clear q0 q1 q2 q3 q4 qf
  have HRd := Lib.hid (((hr.below ((Below.refl _ _).alloc (Nat.le_refl _) (.cells #[.int .i64 x.op, .slice x.A x.ns x.cs, .int .i64 x.mn, .int .i64 x.mx, .slice x.D x.nk x.ck] 27))).below ((Below.refl _ _).alloc (Nat.le_refl _) (.cells #[.int .i64 x.op, .slice x.A x.ns x.cs, .int .i64 x.mn, .int .i64 x.mx, .slice x.D x.nk x.ck] 27))).below ((Below.refl _ _).alloc (Nat.le_refl _) (.cells #[.int .i64 6, .slice none 0 0, .int .i64 0, .int .i64 0, .slice (some ⟨w2.heap.size + 1, 0, none⟩) 1 1] 27)))
  have HH := Lib.hid (And.intro hN (And.intro hlen hrun))
  have hF : Hid (∀ b, (w.alloc (.cells #[.int .i64 0, .slice none 0 0, .int .i64 0, .int .i64 0, .slice none 0 0] 27)).heap.size ≤ b → w.heap.size < b) := Lib.hid fun b hb => by
    have : (w.alloc (.cells #[.int .i64 0, .slice none 0 0, .int .i64 0, .int .i64 0, .slice none 0 0] 27)).heap.size = w.heap.size + 1 := by simp
    omega
  have HL1 := Lib.hid hN.len
  clear hN hlen hrun hr
  by_cases h42 : l1.headD (-1) = 42
  · rcases l1 with _ | ⟨y, l2⟩
    · cases h42
    rw [List.headD_cons] at h42
    subst h42
    have HY := Lib.hid (take_yes HRd.out)
    go_wp2_with (first
      | (go_at_call 61; (with_reducible refine HY.out.mono ?_); rintro e w6 ⟨rfl, hr, ho⟩; have HO := Lib.hid (And.intro hr ho); have HF := Lib.hid (rep_frame (x := x) HR2.out hg ho 0 (-1)); have HRa := Lib.hid HF.out.2.1; obtain ⟨c0, c1, c2, c3, c4, cf⟩ := box_facts HF.out.2.2.1; obtain ⟨q0, q1, q2, q3, q4, qf⟩ := HRa.out.facts; clear hr ho))
    obtain ⟨z0, z1, z2, z3, z4, _⟩ := HRa.out.cells (repNV w2 0 (-1))
    simp only [put5, repNV] at z0 z1 z2 z3 z4
    (try simp only [Exit.inBlock, Exit.then])
    refine bodyPost_ret (v := .tuple #[(repNV w2 0 (-1)).val, .bool true]) ?_ rfl ?_
    · rw [results_cell_tmp rfl]; go_simp
      rfl
    · refine .inr ⟨_, _, l2, rfl, HRa.out.nodes (repNV w2 0 (-1)) (rep_nodes HR2.out hg HO.out.2 0 (-1) hF.out HH.out.1), ?_, fun st a p hst => ?_, HRa.out.rd hg ((HO.out.1.keep (B := w.heap.size) (((Below.refl _ _).setCell (p := ⟨w2.heap.size + 1 + 1, 2, none⟩) (by have := HR2.out.2.1; show w.heap.size ≤ w2.heap.size + 1 + 1; omega) _).setCell (p := ⟨w2.heap.size + 1 + 1, 3, none⟩) (by have := HR2.out.2.1; show w.heap.size ≤ w2.heap.size + 1 + 1; omega) _) hg)) (repNV w2 0 (-1)), HRa.out.put hg (repNV w2 0 (-1))⟩
      · have := HH.out.2.1; rw [List.length_cons] at this; omega
      · rw [HH.out.2.2 st a p hst, runL_count (tok_star l2) rfl, if_pos rfl, ← repLast_app _ _ n HL1.out]
        rfl
  by_cases h43 : l1.headD (-1) = 43
  · rcases l1 with _ | ⟨y, l2⟩
    · cases h43
    rw [List.headD_cons] at h43
    subst h43
    have HN42 := Lib.hid (take_no (x := 42) HRd.out (by rw [List.headD_cons]; decide))
    have HY := Lib.hid (take_yes HRd.out)
    clear h42
    go_wp2_with (first
      | (go_at_call 61; (with_reducible refine HN42.out.mono ?_); rintro e w3 ⟨rfl, rfl⟩)
      | (go_at_call 61; (with_reducible refine HY.out.mono ?_); rintro e w6 ⟨rfl, hr, ho⟩; have HO := Lib.hid (And.intro hr ho); have HF := Lib.hid (rep_frame (x := x) HR2.out hg ho 1 (-1)); have HRa := Lib.hid HF.out.2.1; obtain ⟨c0, c1, c2, c3, c4, cf⟩ := box_facts HF.out.2.2.1; obtain ⟨q0, q1, q2, q3, q4, qf⟩ := HRa.out.facts; clear hr ho))
    obtain ⟨z0, z1, z2, z3, z4, _⟩ := HRa.out.cells (repNV w2 1 (-1))
    simp only [put5, repNV] at z0 z1 z2 z3 z4
    (try simp only [Exit.inBlock, Exit.then])
    refine bodyPost_ret (v := .tuple #[(repNV w2 1 (-1)).val, .bool true]) ?_ rfl ?_
    · rw [results_cell_tmp rfl]; go_simp
      rfl
    · refine .inr ⟨_, _, l2, rfl, HRa.out.nodes (repNV w2 1 (-1)) (rep_nodes HR2.out hg HO.out.2 1 (-1) hF.out HH.out.1), ?_, fun st a p hst => ?_, HRa.out.rd hg ((HO.out.1.keep (B := w.heap.size) (((Below.refl _ _).setCell (p := ⟨w2.heap.size + 1 + 1, 2, none⟩) (by have := HR2.out.2.1; show w.heap.size ≤ w2.heap.size + 1 + 1; omega) _).setCell (p := ⟨w2.heap.size + 1 + 1, 3, none⟩) (by have := HR2.out.2.1; show w.heap.size ≤ w2.heap.size + 1 + 1; omega) _) hg)) (repNV w2 1 (-1)), HRa.out.put hg (repNV w2 1 (-1))⟩
      · have := HH.out.2.1; rw [List.length_cons] at this; omega
      · rw [HH.out.2.2 st a p hst, runL_count (tok_plus l2) rfl, if_pos rfl, ← repLast_app _ _ n HL1.out]
        rfl
  by_cases h63 : l1.headD (-1) = 63
  · rcases l1 with _ | ⟨y, l2⟩
    · cases h63
    rw [List.headD_cons] at h63
    subst h63
    have HN42 := Lib.hid (take_no (x := 42) HRd.out (by rw [List.headD_cons]; decide))
    have HN43 := Lib.hid (take_no (x := 43) HRd.out (by rw [List.headD_cons]; decide))
    have HY := Lib.hid (take_yes HRd.out)
    clear h42 h43
    go_wp2_with (first
      | (go_at_call 61; (with_reducible refine HN42.out.mono ?_); rintro e w3 ⟨rfl, rfl⟩)
      | (go_at_call 61; (with_reducible refine HN43.out.mono ?_); rintro e w3 ⟨rfl, rfl⟩)
      | (go_at_call 61; (with_reducible refine HY.out.mono ?_); rintro e w6 ⟨rfl, hr, ho⟩; have HO := Lib.hid (And.intro hr ho); have HF := Lib.hid (rep_frame (x := x) HR2.out hg ho 0 1); have HRa := Lib.hid HF.out.2.1; obtain ⟨c0, c1, c2, c3, c4, cf⟩ := box_facts HF.out.2.2.1; obtain ⟨q0, q1, q2, q3, q4, qf⟩ := HRa.out.facts; clear hr ho))
    obtain ⟨z0, z1, z2, z3, z4, _⟩ := HRa.out.cells (repNV w2 0 1)
    simp only [put5, repNV] at z0 z1 z2 z3 z4
    (try simp only [Exit.inBlock, Exit.then])
    refine bodyPost_ret (v := .tuple #[(repNV w2 0 1).val, .bool true]) ?_ rfl ?_
    · rw [results_cell_tmp rfl]; go_simp
      rfl
    · refine .inr ⟨_, _, l2, rfl, HRa.out.nodes (repNV w2 0 1) (rep_nodes HR2.out hg HO.out.2 0 1 hF.out HH.out.1), ?_, fun st a p hst => ?_, HRa.out.rd hg ((HO.out.1.keep (B := w.heap.size) (((Below.refl _ _).setCell (p := ⟨w2.heap.size + 1 + 1, 2, none⟩) (by have := HR2.out.2.1; show w.heap.size ≤ w2.heap.size + 1 + 1; omega) _).setCell (p := ⟨w2.heap.size + 1 + 1, 3, none⟩) (by have := HR2.out.2.1; show w.heap.size ≤ w2.heap.size + 1 + 1; omega) _) hg)) (repNV w2 0 1), HRa.out.put hg (repNV w2 0 1)⟩
      · have := HH.out.2.1; rw [List.length_cons] at this; omega
      · rw [HH.out.2.2 st a p hst, runL_count (tok_quest l2) rfl, if_pos rfl, ← repLast_app _ _ n HL1.out]
        rfl
  by_cases h123 : l1.headD (-1) = 123
  · rcases l1 with _ | ⟨y, l2⟩
    · cases h123
    rw [List.headD_cons] at h123
    subst h123
    have HN42 := Lib.hid (take_no (x := 42) HRd.out (by rw [List.headD_cons]; decide))
    have HN43 := Lib.hid (take_no (x := 43) HRd.out (by rw [List.headD_cons]; decide))
    have HN63 := Lib.hid (take_no (x := 63) HRd.out (by rw [List.headD_cons]; decide))
    have HY := Lib.hid (take_yes HRd.out)
    clear h42 h43 h63
    go_wp2_with (first
      | (go_at_call 61; (with_reducible refine HN42.out.mono ?_); rintro e w3 ⟨rfl, rfl⟩)
      | (go_at_call 61; (with_reducible refine HN43.out.mono ?_); rintro e w3 ⟨rfl, rfl⟩)
      | (go_at_call 61; (with_reducible refine HN63.out.mono ?_); rintro e w3 ⟨rfl, rfl⟩)
      | (go_at_call 61; (with_reducible refine HY.out.mono ?_); rintro e w5 ⟨rfl, hr, ho⟩; have HO5 := Lib.hid (And.intro hr ho); clear hr ho)
      | (go_at_call 124; (with_reducible refine (braces_any HO5.out.1).mono ?_); rintro e w6 hv; rcases hv with ⟨mn, mx, rfl, hb, ho⟩ | ⟨mn, mx, l3, rfl, hb, hr, ho⟩ <;> (have HO := Lib.hid (HO5.out.2.trans ho); have HF := Lib.hid (rep_frame (x := x) HR2.out hg HO.out mn mx); have HRa := Lib.hid HF.out.2.1; obtain ⟨c0, c1, c2, c3, c4, cf⟩ := box_facts HF.out.2.2.1; obtain ⟨q0, q1, q2, q3, q4, qf⟩ := HRa.out.facts; clear ho)))
    ·
      obtain ⟨z0, z1, z2, z3, z4, _⟩ := HRa.out.cells (repNV w2 mn mx)
      simp only [put5, repNV] at z0 z1 z2 z3 z4
      (try simp only [Exit.inBlock, Exit.then])
      refine bodyPost_ret (v := .tuple #[(repNV w2 mn mx).val, .bool false]) ?_ rfl ?_
      · rw [results_cell_tmp rfl]; go_simp
        rfl
      · refine .inl ⟨_, rfl, fun st a p hst => ?_, HRa.out.put hg (repNV w2 mn mx)⟩
        rw [HH.out.2.2 st a p hst]
        exact runL_none (by rw [tok_brace]; exact hb) (by simp)
    ·
      obtain ⟨z0, z1, z2, z3, z4, _⟩ := HRa.out.cells (repNV w2 mn mx)
      simp only [put5, repNV] at z0 z1 z2 z3 z4
      (try simp only [Exit.inBlock, Exit.then])
      refine bodyPost_ret (v := .tuple #[(repNV w2 mn mx).val, .bool true]) ?_ rfl ?_
      · rw [results_cell_tmp rfl]; go_simp
        rfl
      · refine .inr ⟨_, _, l3, rfl, HRa.out.nodes (repNV w2 mn mx) (rep_nodes HR2.out hg HO.out mn mx hF.out HH.out.1), ?_, fun st a p hst => ?_, HRa.out.rd hg ((hr.keep (B := w.heap.size) (((Below.refl _ _).setCell (p := ⟨w2.heap.size + 1 + 1, 2, none⟩) (by have := HR2.out.2.1; show w.heap.size ≤ w2.heap.size + 1 + 1; omega) _).setCell (p := ⟨w2.heap.size + 1 + 1, 3, none⟩) (by have := HR2.out.2.1; show w.heap.size ≤ w2.heap.size + 1 + 1; omega) _) hg)) (repNV w2 mn mx), HRa.out.put hg (repNV w2 mn mx)⟩
        · have h1 := HH.out.2.1; have h2 := braceL_lt hb; simp only [List.length_cons] at h1 ⊢; omega
        · rw [HH.out.2.2 st a p hst, runL_count (t := tokN mn mx) (l' := l3) (by rw [tok_brace]; exact hb) rfl, if_pos rfl, ← repLast_app _ _ n HL1.out]
          rfl
  · have HN42 := Lib.hid (take_no (x := 42) HRd.out h42)
    have HN43 := Lib.hid (take_no (x := 43) HRd.out h43)
    have HN63 := Lib.hid (take_no (x := 63) HRd.out h63)
    have HN123 := Lib.hid (take_no (x := 123) HRd.out h123)
    have HCB := Lib.hid (show countB (l1.headD (-1)) = false by unfold countB; rw [decide_eq_false_iff_not]; omega)
    have HRa := Lib.hid ((HR3.out.alloc hg (.cells #[.int .i64 x.op, .slice x.A x.ns x.cs, .int .i64 x.mn, .int .i64 x.mx, .slice x.D x.nk x.ck] 27)).alloc hg (.cells #[.int .i64 6, .slice none 0 0, .int .i64 0, .int .i64 0, .slice (some ⟨w2.heap.size + 1, 0, none⟩) 1 1] 27))
    obtain ⟨q0, q1, q2, q3, q4, qf⟩ := HRa.out.facts
    clear h42 h43 h63 h123
    go_wp2_with (first
      | (go_at_call 61; (with_reducible refine HN42.out.mono ?_); rintro e w3 ⟨rfl, rfl⟩)
      | (go_at_call 61; (with_reducible refine HN43.out.mono ?_); rintro e w3 ⟨rfl, rfl⟩)
      | (go_at_call 61; (with_reducible refine HN63.out.mono ?_); rintro e w3 ⟨rfl, rfl⟩)
      | (go_at_call 61; (with_reducible refine HN123.out.mono ?_); rintro e w3 ⟨rfl, rfl⟩))
    obtain ⟨z0, z1, z2, z3, z4, _⟩ := HRa.out.cells x
    simp only [put5] at z0 z1 z2 z3 z4
    (try simp only [Exit.inBlock, Exit.then])
    refine bodyPost_ret (v := .tuple #[x.val, .bool true]) ?_ rfl ?_
    · rw [results_cell_tmp rfl]; go_simp
      rfl
    · refine .inr ⟨x, n, l1, rfl, HRa.out.nodes x (HH.out.1.move (by simp; omega) fun b hb hlt => ⟨hF.out b hb, ?_⟩), HH.out.2.1, fun st a p hst => ?_, HRa.out.rd hg HRd.out x, HRa.out.put hg x⟩
      · exact (Below.heap_alloc _ _ _ (by simp; omega)).trans ((Below.heap_alloc _ _ _ (by simp; omega)).trans (Below.heap_alloc _ _ _ hlt))
      · rw [HH.out.2.2 st a p hst]
        exact runL_loose HCB.out
end
theorem piece_any (F : FacesS) (d : Nat) (hd : d ≤ 10) {c : Int} {l : List Int} (hs : c ≠ 124 ∧ c ≠ 41) {w : World} {g : Nat} (h : Rd w g (c :: l)) (HP : d < 10 → ∀ w, Rd w g l → Calls Tryz.prog 38 #[.pointer (some ⟨g, 0, none⟩), .int .i64 ((d : Int) + 1)] w (PatV (d + 1) g l w)) :
    Calls Tryz.prog 102 #[.pointer (some ⟨g, 0, none⟩), .int .i64 (d : Int)] w (PieceV d g (c :: l) w) := by
  by_cases h94 : c = 94
  · subst h94; exact piece_begin d h
  by_cases h36 : c = 36
  · subst h36; exact piece_end d h
  exact piece_atom h h94 h36 fun w h => atom_any F d hd ⟨h94, h36, hs.1, hs.2⟩ h HP
end Go.Proofs.YtaapbmdojkjphaaGreat
