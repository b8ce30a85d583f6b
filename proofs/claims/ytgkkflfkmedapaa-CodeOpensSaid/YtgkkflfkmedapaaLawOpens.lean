/- CodeOpens: beginnings are open, what isn't open is settled: the walk. -/
import Derived.Test.YtgkkflfkmedapaaLawPuts
namespace Go.Proofs.Ytgkkflfkmedapaa
open Go Go.RowKit
set_option linter.unusedVariables false

theorem RowI.take_ {k : IntKind} {w : World} {A : Option Addr} {n : Nat} {xs : List Int} (h : RowI k w A n xs) {i : Nat} (hi : i ≤ n) : RowI k w A i (xs.take i) := by
  refine ⟨by rw [List.length_take, h.1]; omega, fun h0 => ?_⟩
  obtain ⟨b, o, hA, hb, hc⟩ := h.2 (by omega)
  refine ⟨b, o, hA, hb, fun j hj => ?_⟩
  rw [hc j (by omega)]
  simp [List.getD, hj]

theorem szI_2 {v : Int} : szI v = 2 ↔ 128 ≤ v ∧ v < 2048 := by
  unfold szI
  cases h : isI v
  · rw [isI_false] at h; simp; omega
  · rw [isI_true] at h; simp only [Bool.true_eq_false, if_false]; (repeat' split) <;> omega
theorem szI_3 {v : Int} : szI v = 3 ↔ 2048 ≤ v ∧ v < 65536 ∧ ¬ (55296 ≤ v ∧ v ≤ 57343) := by
  unfold szI
  cases h : isI v
  · rw [isI_false] at h; simp; omega
  · rw [isI_true] at h; simp only [Bool.true_eq_false, if_false]; (repeat' split) <;> omega
theorem szI_4 {v : Int} : szI v = 4 ↔ 65536 ≤ v ∧ v ≤ 1114111 := by
  unfold szI
  cases h : isI v
  · rw [isI_false] at h; simp; omega
  · rw [isI_true] at h; simp only [Bool.true_eq_false, if_false]; (repeat' split) <;> omega

/-- Between the ends of what missing octets can bring. -/
theorem span {n : Int} {m : Nat} {g v : Int} (hnm : (n = 2 ∧ m = 1) ∨ (n = 3 ∧ m = 1) ∨ (n = 3 ∧ m = 2) ∨ (n = 4 ∧ m = 1) ∨ (n = 4 ∧ m = 2) ∨ (n = 4 ∧ m = 3))
    (h1 : g * 64 ^ m ≤ v) (h2 : v ≤ g * 64 ^ m + (64 ^ m - 1)) (hs : szI v = n) : szI (g * 64 ^ m) = n ∨ szI (g * 64 ^ m + (64 ^ m - 1)) = n := by
  rcases hnm with ⟨rfl, rfl⟩ | ⟨rfl, rfl⟩ | ⟨rfl, rfl⟩ | ⟨rfl, rfl⟩ | ⟨rfl, rfl⟩ | ⟨rfl, rfl⟩ <;> simp only [szI_2, szI_3, szI_4] at * <;> simp at * <;> omega

theorem vtail_span : ∀ (u : List Int) (g : Int), (∀ c ∈ u, 128 ≤ c ∧ c < 192) → u.length = 1 ∨ u.length = 2 ∨ u.length = 3 → g * 64 ^ u.length ≤ vtailI g u ∧ vtailI g u ≤ g * 64 ^ u.length + (64 ^ u.length - 1) := by
  intro u g h hl
  rcases u with _ | ⟨a, _ | ⟨b, _ | ⟨c, _ | ⟨d, u⟩⟩⟩⟩
  · simp at hl
  · have ha := h a (by simp)
    simp [vtailI]; omega
  · have ha := h a (by simp)
    have hb := h b (by simp)
    simp [vtailI]; omega
  · have ha := h a (by simp)
    have hb := h b (by simp)
    have hc := h c (by simp)
    simp [vtailI]; omega
  · simp at hl

theorem vtail_append : ∀ (t u : List Int) (g : Int), vtailI g (t ++ u) = vtailI (vtailI g t) u
  | [], _, _ => rfl
  | c :: t, u, g => by simp only [List.cons_append, vtailI]; exact vtail_append t u _

theorem pairs_of {n : Int} {m k : Nat} (hn : n = 1 ∨ n = 2 ∨ n = 3 ∨ n = 4) (h : n = (k : Int) + 1 + m) (hm : 1 ≤ m) :
    (n = 2 ∧ m = 1) ∨ (n = 3 ∧ m = 1) ∨ (n = 3 ∧ m = 2) ∨ (n = 4 ∧ m = 1) ∨ (n = 4 ∧ m = 2) ∨ (n = 4 ∧ m = 3) := by omega

/-- All beginnings of a code point's octets are open. -/
theorem open_begin {s : Int} (h : isI s = true) {i : Nat} (hi : i < (putI s).length) : openI ((putI s).take i) = true := by
  rcases Nat.eq_zero_or_pos i with h0 | h0
  · subst h0; rfl
  cases hp : putI s with
  | nil => rw [hp] at hi; simp at hi
  | cons x t =>
    have hf := putI_form h hp
    have hx := (putI_byte s h x (by rw [hp]; simp)).1
    rw [hp] at hi
    simp only [List.length_cons] at hi
    obtain ⟨j, rfl⟩ : ∃ j, i = j + 1 := ⟨i - 1, by omega⟩
    have hjl : (t.take j).length = j := by rw [List.length_take]; omega
    have hval := valI_put h
    rw [hp] at hval
    have hsz := szI_len h
    rw [hp, List.length_cons] at hsz
    rw [List.take_succ_cons]
    simp only [openI]
    rw [hjl, if_neg (by omega), head_v hx (by omega), gat_conts _ _ (fun c hc => hf.2 c (List.mem_of_mem_take hc))]
    simp only [Bool.true_eq_false, if_false]
    have hsplit : vtailI (vtailI (vheadI x) (t.take j)) (t.drop j) = s := by
      rw [← vtail_append, List.take_append_drop]; exact hval
    obtain ⟨g, hg⟩ : ∃ g, g = vtailI (vheadI x) (t.take j) := ⟨_, rfl⟩
    rw [← hg] at hsplit ⊢
    have hdl : (t.drop j).length = t.length - j := List.length_drop
    obtain ⟨m, hm⟩ : ∃ m, m = t.length - j := ⟨_, rfl⟩
    rw [← hm] at hdl
    have hor := lenI_or x
    have hpairs := pairs_of (n := lenI x) (m := m) (k := j) (by omega) (by omega) (by omega)
    have hsp := vtail_span (t.drop j) g (fun c hc => hf.2 c (List.mem_of_mem_drop hc)) (by omega)
    rw [hsplit, hdl] at hsp
    have hres := span hpairs hsp.1 hsp.2 (by omega)
    rw [show (lenI x - (((j : Nat) : Int) + 1)).toNat = m by omega]
    rcases hres with h | h
    · rw [decide_eq_true h, Bool.true_or]
    · rw [decide_eq_true h, Bool.or_true]
theorem open_put {s : Int} (h : isI s = true) : openI (putI s) = false := by
  cases hp : putI s with
  | nil => unfold putI at hp; (repeat' split at hp) <;> cases hp
  | cons x t =>
    simp only [openI]
    rw [if_pos (by have := (putI_form h hp).1; omega)]
/-- What isn't open is settled, whatever comes behind. -/
theorem open_settled {b : List Int} (h : openI b = false) (rest : List Int) : getI (b ++ rest) = getI b := by
  cases b with
  | nil => simp [openI] at h
  | cons x t =>
    have hor := lenI_or x
    simp only [openI] at h
    rw [List.cons_append]
    simp only [getI]
    by_cases hn : lenI x ≤ (t.length : Int) + 1
    · rw [List.take_append_of_le_length (by omega)]
      by_cases h0 : lenI x = 0
      · rw [if_pos (Or.inl h0), if_pos (Or.inl h0)]
      · rw [if_neg (show ¬ (lenI x = 0 ∨ ((t ++ rest).length : Int) + 1 < lenI x) by rw [List.length_append]; omega), if_neg (show ¬ (lenI x = 0 ∨ (t.length : Int) + 1 < lenI x) by omega)]
    · rw [if_neg hn] at h
      rw [if_pos (show lenI x = 0 ∨ (t.length : Int) + 1 < lenI x by omega)]
      by_cases hlen : lenI x = 0 ∨ ((t ++ rest).length : Int) + 1 < lenI x
      · rw [if_pos hlen]
      · rw [if_neg hlen, if_neg]
        rintro ⟨ho, hs⟩
        rw [List.length_append] at hlen
        rw [List.take_append, List.take_of_length_le (by omega), gat_append] at ho hs
        cases hg2 : (gat (headI (lenI x) x) t).2
        · rw [hg2] at ho; simp at ho
        · rw [hg2] at ho hs h
          simp only [if_true] at ho hs
          simp only [Bool.true_eq_false, if_false] at h
          obtain ⟨u, hu⟩ : ∃ u, u = rest.take ((lenI x).toNat - 1 - t.length) := ⟨_, rfl⟩
          rw [← hu] at ho hs
          have hul : u.length = (lenI x).toNat - 1 - t.length := by rw [hu, List.length_take]; omega
          have hcu : ∀ c ∈ u, 128 ≤ c ∧ c < 192 := by
            apply Classical.byContradiction
            intro hc
            rw [gat_not _ _ hc] at ho
            cases ho
          rw [gat_conts _ _ hcu] at hs
          simp only at hs
          have hpairs := pairs_of (n := lenI x) (m := u.length) (k := t.length) (by omega) (by omega) (by omega)
          have hsp := vtail_span u (gat (headI (lenI x) x) t).1 hcu (by omega)
          have hres := span hpairs hsp.1 hsp.2 hs
          rw [show (lenI x - ((t.length : Int) + 1)).toNat = u.length by omega] at h
          simp only [Bool.or_eq_false_iff, decide_eq_false_iff_not] at h
          rcases hres with hh | hh
          · exact h.1 hh
          · exact h.2 hh

theorem opens_long (r : Int) (A B : Option Addr) (la ca lb cb : Nat) (w : World) (hl : 20 < la ∨ 20 < lb) (hm : la ≤ maxLen) (hm2 : lb ≤ maxLen) :
    Calls Try.prog 5 #[.int .i64 r, .slice A la ca, .slice B lb cb] w fun e w' => e = .returned (.bool true) ∧ Below w.heap.size w w' := by
  unfold maxLen at hm hm2
  rcases Nat.lt_or_ge 20 la with h | h
  · have hd : decide ((20 : Int) < (la : Int)) = true := by simp; omega
    clear hl
    go_enter Try.func5, Try.ntmps5
    go_wp2_with fail
    refine (awake_any _).mono ?_; rintro e w1 ⟨rfl, hbel⟩
    go_wp2_with fail
    refine (awake_any _).mono ?_; rintro e w2 ⟨rfl, hbel2⟩
    go_wp2_with fail
    go_ret
    exact ⟨rfl, hbel.trans (Below.mono hbel2 hbel.size)⟩
  · have hd : decide ((20 : Int) < (la : Int)) = false := by simp; omega
    have hd2 : decide ((20 : Int) < (lb : Int)) = true := by simp; omega
    clear hl
    go_enter Try.func5, Try.ntmps5
    go_wp2_with fail
    refine (awake_any _).mono ?_; rintro e w1 ⟨rfl, hbel⟩
    go_wp2_with fail
    refine (awake_any _).mono ?_; rintro e w2 ⟨rfl, hbel2⟩
    go_wp2_with fail
    go_ret
    exact ⟨rfl, hbel.trans (Below.mono hbel2 hbel.size)⟩

set_option maxHeartbeats 4000000 in
theorem opens_short (r : Int) (A B : Option Addr) (la ca lb cb : Nat) (l k : List Int) (W : World) (h20 : la ≤ 20) (h20b : lb ≤ 20) (hr : RowI .u8 W A la l) (hrb : RowI .u8 W B lb k)
    (hnil : A = none → la = 0 ∧ ca = 0) (hnilb : B = none → lb = 0 ∧ cb = 0) (hca : la ≤ ca) (hcm : ca ≤ maxLen) (hby : ∀ c ∈ l, 0 ≤ c ∧ c < 256) (hbyb : ∀ c ∈ k, 0 ≤ c ∧ c < 256) :
    Calls Try.prog 5 #[.int .i64 r, .slice A la ca, .slice B lb cb] W fun e w' => e = .returned (.bool true) ∧ Below W.heap.size W w' := by
  have hd : decide ((20 : Int) < (la : Int)) = false := by simp; omega
  have hd2 : decide ((20 : Int) < (lb : Int)) = false := by simp; omega
  have hp := fun w => put_abs r w
  have hbeg := fun (i : Nat) (h : i < (putI (sndI r)).length) => open_begin (sndI_is r) h
  have hend := open_put (sndI_is r)
  have hP4 := putI_len (sndI r)
  have hPb := putI_byte _ (sndI_is r)
  obtain ⟨P, hP⟩ : ∃ P, P = putI (sndI r) := ⟨_, rfl⟩
  rw [← hP] at hp hbeg hend hP4 hPb
  clear hP
  have hon := fun (A : Option Addr) (i c : Nat) (w : World) (h : RowI .u8 w A i (P.take i)) (hi : i < P.length) (hic : i ≤ c) (hc : c ≤ maxLen) => copen_any A i c (P.take i) w h (fun c hc => hPb c (List.mem_of_mem_take hc)) hic hc (by omega)
  have hof := fun (A : Option Addr) (c : Nat) (w : World) (h : RowI .u8 w A P.length P) (hic : P.length ≤ c) (hc : c ≤ maxLen) => copen_any A P.length c P w h hPb hic hc (by omega)
  rw [hend] at hof
  obtain ⟨n, hn⟩ : ∃ n, n = P.length := ⟨_, rfl⟩
  rw [← hn] at hp hP4 hof
  simp only [← hn] at hbeg hon
  obtain ⟨hn1, hn4⟩ := hP4
  have HR := Lib.hid hr; clear hr
  have HRB := Lib.hid hrb; clear hrb
  have HN := Lib.hid hnil; clear hnil
  have HNB := Lib.hid hnilb; clear hnilb
  have HP := Lib.hid hp; clear hp
  have HBEG := Lib.hid hbeg; clear hbeg
  have HON := Lib.hid hon; clear hon
  have HOF := Lib.hid hof; clear hof
  have HBY := Lib.hid hby; clear hby
  have HBYB := Lib.hid hbyb; clear hbyb
  have HCM := Lib.hid hcm; clear hcm
  clear hend hPb hn
  go_enter Try.func5, Try.ntmps5
  go_wp2_with fail
  refine (awake_any _).mono ?_; rintro e w1 ⟨rfl, hbel⟩
  go_wp2_with fail
  refine (HP.out _).mono ?_; rintro e w2 ⟨Ap, rfl, hpr, hAp, hb2⟩
  have hW2 : Below W.heap.size W w2 := hbel.trans (Below.mono hb2 hbel.size)
  have HPR := Lib.hid hpr; clear hpr
  clear hbel hb2
  go_wp2_with fail
  go_loopw [8] (fun vi wr => ∃ i q : Nat, i ≤ n ∧ vi = .int .i64 i ∧ wr = w2.drewN q) (fun vi _ => n - (intOf vi).toNat)
  case atStart => exact ⟨0, 0, by omega, rfl, rfl⟩
  case round =>
    obtain ⟨i, q, hi, rfl, rfl⟩ := hrel
    by_cases hlt : i < n
    · have hb := HBEG.out i hlt
      have ho := HON.out Ap i n (w2.drewN q) ((HPR.out.take_ hi).drewN q) hlt hi (by unfold maxLen; omega)
      rw [hb] at ho
      clear hb
      have HOO := Lib.hid ho; clear ho
      go_wp2_with fail
      refine HOO.out.mono ?_; rintro e w' ⟨rfl, q2, rfl⟩
      go_wp2_with fail
      exact ⟨⟨i + 1, _, by omega, by go_num, rfl⟩, by simp [intOf]; omega⟩
    · obtain rfl : i = n := by omega
      have hr2 := HR.out.below hW2 (Nat.le_refl _)
      have hrb2 := HRB.out.below hW2 (Nat.le_refl _)
      have HR2 := Lib.hid hr2; clear hr2
      have HRB2 := Lib.hid hrb2; clear hrb2
      have hop := fun w (h : RowI .u8 w A la l) => copen_any A la ca l w h HBY.out hca HCM.out (by omega)
      have HOP := Lib.hid hop; clear hop
      go_wp2_with fail
      refine (HOF.out _ _ _ (HPR.out.drewN _) (Nat.le_refl _) (by unfold maxLen; omega)).mono ?_; rintro e w' ⟨rfl, q2, rfl⟩
      cases hob : openI l with
      | true =>
        have hop := HOP.out
        rw [hob] at hop
        have HOP2 := Lib.hid hop
        clear hop hob
        go_wp2_with fail
        refine (HOP2.out _ (HR2.out.drewN _)).mono ?_; rintro e w' ⟨rfl, q3, rfl⟩
        go_wp2_with fail
        go_ret
        exact ⟨rfl, below_drewN hW2 _⟩
      | false =>
        have hop := HOP.out
        rw [hob] at hop
        have HOP2 := Lib.hid hop
        have hset := open_settled hob k
        have hget := fun w (h : RowI .u8 w A la l) => get_any A la ca l w h HBY.out hca HCM.out (by omega)
        have hcat := fun (A' : Option Addr) (c : Nat) (w : World) (h : RowI .u8 w A' (la + lb) (l ++ k)) (h1 : la + lb ≤ c) (h2 : c ≤ maxLen) => get_any A' (la + lb) c (l ++ k) w h (fun c hc => by
          rcases List.mem_append.1 hc with h | h
          · exact HBY.out c h
          · exact HBYB.out c h) h1 h2 (by omega)
        rw [hset] at hcat
        obtain ⟨g1, hg1⟩ : ∃ g, g = (getI l).1 := ⟨_, rfl⟩
        obtain ⟨g2, hg2⟩ : ∃ g, g = (getI l).2 := ⟨_, rfl⟩
        rw [← hg1, ← hg2] at hget hcat
        have HGET := Lib.hid hget; clear hget
        have HCAT := Lib.hid hcat; clear hcat
        have e1 : (g1 == g1) = true := by simp
        have e2 : (g2 == g2) = true := by simp
        clear hop hob hset hg1 hg2
        go_wp2_with fail
        refine (HOP2.out _ (HR2.out.drewN _)).mono ?_; rintro e w' ⟨rfl, q3, rfl⟩
        go_wp2_with fail
        refine (HGET.out _ (HR2.out.drewN _)).mono ?_; rintro e w3 ⟨rfl, q4, hw3⟩
        have hR3 : RowI .u8 w3 A la l := by rw [hw3]; exact HR2.out
        have hRB3 : RowI .u8 w3 B lb k := by rw [hw3]; exact HRB2.out
        have hW3 : Below W.heap.size W w3 := by rw [hw3]; exact ⟨hW2.os, hW2.tape, hW2.output, hW2.size, hW2.block⟩
        obtain ⟨v1, w4, happ1, hown1, hgrow1⟩ := app_run .u8 22 5 1 Try.underlying22 info_u8 (w3.alloc (.cells #[] 5)) w3.heap.size (.slice (some ⟨w3.heap.size, 0, none⟩) 0 0) 0 [] (World.ownsRow_made w3 #[] 0 (Nat.le_refl _) (Nat.zero_le _) rfl)
          A la ca l (hR3.alloc _) HN.out (by omega) (by unfold maxLen; omega) (by simp)
        have hb4 : Below w3.heap.size w3 w4 := ((Below.refl _ _).alloc (Nat.le_refl _) _).grown hgrow1 (by simp) (by intro k hk; simp [Value.ownBlock] at hk; omega)
        have hrb4 := hRB3.below hb4 (Nat.le_refl _)
        obtain ⟨v2, w5, happ2, hown2, hgrow2⟩ := app_run .u8 22 5 1 Try.underlying22 info_u8 w4 w3.heap.size v1 (0 + la) ([] ++ l) hown1
          B lb cb k hrb4 HNB.out (by omega) (by unfold maxLen; omega) hb4.size
        have hb5 : Below w3.heap.size w3 w5 := hb4.grown hgrow2 hb4.size (by intro k hk; exact (hown1.lt k hk).1)
        rw [Nat.zero_add, List.nil_append] at hown2
        obtain ⟨A', cap', rfl, hrc, hcap', hcm'⟩ := row_of_own hown2
        have hW5 : Below W.heap.size W w5 := hW3.trans (Below.mono hb5 hW3.size)
        have HA1 := Lib.hid happ1; clear happ1
        have HA2 := Lib.hid happ2; clear happ2
        have HRC := Lib.hid hrc; clear hrc
        clear hrb4 hown1 hgrow1 hb4 hown2 hgrow2 hb5 hR3 hRB3 hW3
        clear hw3
        go_wp2_with (first
          | (at_builtin; refine wpList_append_run rfl _ _ 22 rfl rfl _ _ _ _ rfl rfl HA1.out ?_)
          | (at_builtin; refine wpList_append_run rfl _ _ 22 rfl rfl _ _ _ _ rfl rfl HA2.out ?_))
        refine (HCAT.out _ _ _ HRC.out hcap' hcm').mono ?_; rintro e w' ⟨rfl, q5, rfl⟩
        go_wp2_with fail
        go_ret
        exact ⟨rfl, below_drewN hW5 q5⟩

theorem lawOpens (r : Int) (A : Option Addr) (la ca : Nat) (zs : List Int) (B : Option Addr) (lb cb : Nat) (ys : List Int) (W : World)
    (h : (A = none ∧ la = 0 ∧ ca = 0 ∧ zs = []) ∨
      ∃ x, A = some x ∧ la ≤ ca ∧ ca ≤ maxLen ∧ zs.length = ca ∧ (∀ i, i < zs.length → W.cell? (x.add i) = some (.int .u8 (zs.getD i 0))) ∧ ∀ n ∈ zs, (Lit.int .u8 n).wf = true)
    (h2 : (B = none ∧ lb = 0 ∧ cb = 0 ∧ ys = []) ∨
      ∃ x, B = some x ∧ lb ≤ cb ∧ cb ≤ maxLen ∧ ys.length = cb ∧ (∀ i, i < ys.length → W.cell? (x.add i) = some (.int .u8 (ys.getD i 0))) ∧ ∀ n ∈ ys, (Lit.int .u8 n).wf = true) :
    Calls Try.prog 5 #[.int .i64 r, .slice A la ca, .slice B lb cb] W fun e w' => e = .returned (.bool true) ∧ Below W.heap.size W w' := by
  obtain ⟨hr, hcap, hcm, hnil, hwf⟩ := rowI_of_row h
  obtain ⟨hr2, hcap2, hcm2, hnil2, hwf2⟩ := rowI_of_row h2
  by_cases hl : 20 < la ∨ 20 < lb
  · exact opens_long r A B la ca lb cb W hl (Nat.le_trans hcap hcm) (Nat.le_trans hcap2 hcm2)
  · exact opens_short r A B la ca lb cb (zs.take la) (ys.take lb) W (by omega) (by omega) hr hr2 hnil hnil2 hcap hcm (fun c hc => byte_of_wf (hwf c hc)) (fun c hc => byte_of_wf (hwf2 c hc))
end Go.Proofs.Ytgkkflfkmedapaa
