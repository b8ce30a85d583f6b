/- SourceSinks: the walk. -/
import Derived.Test.YtgmaiickfpgeoaaAwake5
import Derived.Test.YtgmaiickfpgeoaaTexts
import Derived.SizedLaws
namespace Go.Proofs.Ytgmaiickfpgeoaa
open Go Go.RowKit
set_option linter.unusedVariables false

theorem lawSinks_many (A : Option Addr) (len cap : Nat) (refuse : Int) (w : World) (hl : 40 < len) (hm : len ≤ maxLen) :
    Calls Try.prog 5 #[.int .i64 refuse, .slice A len cap] w fun e w' => e = .returned (.bool true) ∧ Below w.heap.size w w' := by
  unfold maxLen at hm
  have hd : decide ((40 : Int) < (len : Int)) = true := by simp; omega
  go_enter Try.func5, Try.ntmps5
  go_wp2_with fail
  refine (awake5_any _).mono ?_; rintro e w1 ⟨rfl, hbel⟩
  go_wp2_with fail
  refine (awake5_any _).mono ?_; rintro e w2 ⟨rfl, hbel2⟩
  go_wp2_with fail
  go_ret
  exact ⟨rfl, hbel.trans (Below.mono hbel2 hbel.size)⟩

/-- The lists lie in different blocks. -/
def Apart (V V2 : Value) : Prop := ∀ k, V.ownBlock = some k → V2.ownBlock ≠ some k
theorem own_ne_snk {w : World} {B C g n : Nat} {refuse asked : Int} {V V2 : Value} {ss : List ByteArray} {xs : List Value} (h : SnkAt w B g refuse V ss asked) (ho : w.ownsRow C 9 1 V2 n xs) : V2.ownBlock ≠ some g := by
  rcases ho.2 with ⟨rfl, _⟩ | ⟨b, cap, cur, rfl, hb, hr, _⟩
  · simp [Value.ownBlock]
  · simp [Value.ownBlock]
    rintro rfl
    have := h.2.1
    rw [hr] at this
    injection this with this
    injection this with _ ht _
    exact absurd ht (by decide)
/-- The sink stays where another list grows. -/
theorem SnkAt.grown {w w' : World} {B g : Nat} {refuse asked : Int} {V V2 : Value} {ss : List ByteArray} (h : SnkAt w B g refuse V ss asked) (hg : w.grownBy w' V2.ownBlock) (hne : V2.ownBlock ≠ some g) (ha : Apart V V2) : SnkAt w' B g refuse V ss asked := by
  refine ⟨h.1, (hg.block g h.lt (fun e => hne e.symm)).trans h.2.1, ⟨h.2.2.1, ?_⟩⟩
  rcases h.2.2.2 with h2 | ⟨b, cap, cur, rfl, hb, hr, r⟩
  · exact .inl h2
  · exact .inr ⟨b, cap, cur, rfl, hb, (hg.block b (Array.getElem?_eq_some_iff.1 hr).1 (fun e => ha b rfl e.symm)).trans hr, r⟩
theorem own_off2 {g : Nat} {V V' : Value} {w w' : World} {B n : Nat} {e : TypeId} {xs : List Value} (h : w.ownsRow B e 1 V' n xs) (ho : Off g V w w') (hg : V'.ownBlock ≠ some g) (ha : Apart V V') : w'.ownsRow B e 1 V' n xs := by
  refine own_off h ho hg ?_
  rcases hV : V.ownBlock with _ | k
  · rcases hv : V'.ownBlock with _ | k'
    · exact .inl rfl
    · exact .inr (by simp)
  · exact .inr (fun e => ha k hV e)

set_option maxHeartbeats 4000000 in
theorem lawSinks_short (A : Option Addr) (len cap : Nat) (ts : List ByteArray) (refuse : Int) (W : World) (hl : len ≤ 40) (hr : RowS W A len ts) (hsz : ∀ s ∈ ts, s.size ≤ 281474976710656) :
    Calls Try.prog 5 #[.int .i64 refuse, .slice A len cap] W fun e w' => e = .returned (.bool true) ∧ Below W.heap.size W w' := by
  have hd : decide ((40 : Int) < (len : Int)) = false := by simp; omega
  have HR := Lib.hid hr; clear hr
  have HSZ := Lib.hid hsz; clear hsz
  have HOPEN := Lib.hid (fun w => sopen_any refuse w)
  go_enter Try.func5, Try.ntmps5
  go_wp2_with fail
  refine (awake5_any _).mono ?_; rintro e w1 ⟨rfl, hb1⟩
  go_wp2_with fail
  refine (HOPEN.out _).mono ?_; rintro e w2 ⟨rfl, hsnk, hb2⟩
  have hb02 : Below W.heap.size W w2 := hb1.trans (Below.mono hb2 hb1.size)
  have hWB := hb1.size
  obtain ⟨g, hg⟩ : ∃ g, g = w1.heap.size := ⟨_, rfl⟩
  rw [← hg] at hsnk hWB ⊢
  have HSNK := Lib.hid hsnk; clear hsnk
  clear hg hb1 hb2
  go_wp2_with fail
  go_loopw [6, 7] (fun v6 vi wr => ∃ (i : Nat) (ss : List ByteArray) (P : Option Addr) (pc : Nat) (V : Value), i ≤ len ∧ vi = .int .i64 (i : Int) ∧ v6 = .slice P ss.length pc ∧ ss.length ≤ i ∧ Hid (SnkAt wr g g refuse V ss (i : Int)) ∧
    Hid (wr.ownsRow g 9 1 (.slice P ss.length pc) ss.length (ss.map .string)) ∧ Hid (Apart V (.slice P ss.length pc)) ∧ Below W.heap.size W wr) (fun _ vi _ => len - (intOf vi).toNat)
  case atStart => exact ⟨0, [], none, 0, _, by omega, rfl, rfl, by simp, HSNK, Lib.hid (World.ownsRow_nil _ _ _ _), Lib.hid (fun k h => by simp [Value.ownBlock] at h), hb02⟩
  case round =>
    obtain ⟨i, ss, P, pc, V, hi, rfl, rfl, hsi, HS, HO, HA, hb⟩ := hrel
    by_cases hlt : i < len
    · obtain ⟨b, o, rfl, hbl, hc⟩ := HR.out.2 (by omega)
      have hce : ∀ w', Below W.heap.size W w' → w'.cell? ⟨b, o + i, none⟩ = some (.string (ts.getD i ⟨#[]⟩)) := fun w' h => (h.cell (p := ⟨b, o + i, none⟩) hbl).trans (hc i hlt)
      have hts : (ts.getD i ⟨#[]⟩).size ≤ 281474976710656 := by
        have h1 : i < ts.length := by rw [HR.out.1]; exact hlt
        rw [List.getD, List.getElem?_eq_getElem h1]
        exact HSZ.out _ (List.getElem_mem h1)
      obtain ⟨s, hs⟩ : ∃ s, s = ts.getD i ⟨#[]⟩ := ⟨_, rfl⟩
      rw [← hs] at hce hts
      have HCE := Lib.hid hce
      have hc1 := hce wr hb
      obtain ⟨m, hm⟩ : ∃ m, m = ss.length := ⟨_, rfl⟩
      by_cases hno : 0 ≤ refuse ∧ refuse ≤ (ss.length : Int)
      · have hput := put_no HS.out s (by omega) hno
        have hd1 : decide (0 ≤ refuse) = true := by simp; omega
        have hd2 : decide (refuse ≤ (ss.length : Int)) = true := by simp; omega
        have HPUT := Lib.hid hput; clear hput
        clear hc hs hce
        have hi' : i ≤ 40 := by omega
        clear hno
        go_wp2_with fail
        refine HPUT.out.mono ?_; rintro e w3 ⟨rfl, hs3, hoff⟩
        have hb3 : Below g wr w3 := hoff.below (Nat.le_refl _) (fun k hk => (HS.out.2.2.lt k hk).1) (Nat.le_of_lt HS.out.lt)
        have ho3 := own_off2 HO.out hoff (own_ne_snk HS.out HO.out) HA.out
        have hb03 : Below W.heap.size W w3 := hb.trans (Below.mono hb3 hWB)
        have hask := asked_any hs3
        have hgot := got_any hs3 (by omega)
        have HASK := Lib.hid hask; clear hask
        have HGOT := Lib.hid hgot; clear hgot
        have HS3 := Lib.hid hs3; clear hs3
        have HO3 := Lib.hid ho3; clear ho3
        clear hoff hb3
        go_wp2_with fail
        refine HASK.out.mono ?_; rintro e w4 ⟨rfl, rfl⟩
        go_wp2_with fail
        refine HGOT.out.mono ?_; rintro e w5 ⟨v5, rfl, ho5, hb5⟩
        have ho35 := own_kept HO3.out hb5
        obtain ⟨A5, c5, rfl, hr5⟩ := rowS_of_own ho5
        obtain ⟨A6, c6, hv6, hr6⟩ := rowS_of_own ho35
        injection hv6 with e1 e2 e3
        subst e1; subst e3
        have htx := texts_any ss A5 P ss.length c5 pc w5 hr5 hr6 (by omega)
        have HTX := Lib.hid htx; clear htx
        have hs5 := HS3.out.below hb5
        have hb05 : Below W.heap.size W w5 := hb03.trans (Below.mono hb5 hb03.size)
        have HS5 := Lib.hid hs5; clear hs5
        have HO5 := Lib.hid ho35; clear ho35
        clear ho5 hr5 hr6 hb5
        go_wp2_with fail
        refine HTX.out.mono ?_; rintro e w6 ⟨rfl, q, rfl⟩
        go_wp2_with fail
        refine ⟨⟨i + 1, ss, P, pc, V, by omega, by go_num, rfl, by omega, Lib.hid (by simpa using HS5.out.drewN q), Lib.hid HO5.out, HA, below_drewN hb05 q⟩, by simp [intOf]; omega⟩
      · have hput := put_yes HS.out s hts (by omega) (by omega) (by omega)
        have hor : refuse < 0 ∨ (ss.length : Int) < refuse := by omega
        have HPUT := Lib.hid hput; clear hput
        clear hc hs hce hno
        have hi' : i ≤ 40 := by omega
        rcases hor with hor | hor
        · have hd1 : decide (0 ≤ refuse) = false := by simp; omega
          go_wp2_with fail
          refine HPUT.out.mono ?_; rintro e w3 ⟨rfl, V', hs3, hoff, hat⟩
          have hb3 : Below g wr w3 := hoff.below (Nat.le_refl _) (fun k hk => (HS.out.2.2.lt k hk).1) (Nat.le_of_lt HS.out.lt)
          have ho3 := own_off2 HO.out hoff (own_ne_snk HS.out HO.out) HA.out
          have ha3 : Apart V' (.slice P ss.length pc) := by
            rcases hat with h1 | ⟨b', h1, h2⟩
            · intro k hk; rw [h1] at hk; exact HA.out k hk
            · intro k hk e
              rw [h1] at hk
              injection hk with hk
              have := (HO.out.lt k e).2
              omega
          have hb03 : Below W.heap.size W w3 := hb.trans (Below.mono hb3 hWB)
          have hc3 := HCE.out w3 hb03
          have hask := asked_any hs3
          have hgw3 := hs3.lt
          obtain ⟨v5, w5, happ, hown5, hgr5, hat5⟩ := push_text w3 g (.slice P ss.length pc) ss.length _ ho3 s (by omega) (by omega)
          obtain ⟨ss2, hss⟩ : ∃ ss2, ss2 = ss ++ [s] := ⟨_, rfl⟩
          have hl2 : ss2.length = ss.length + 1 := by rw [hss]; simp
          rw [← hss] at hs3
          have hown6 : w5.ownsRow g 9 1 v5 ss2.length (ss2.map .string) := by rw [hl2, hss]; simpa using hown5
          have hs4 : SnkAt (w3.alloc (.cells #[.string s] 9)) g g refuse V' ss2 ((i : Int) + 1) := hs3.below ((Below.refl _ _).alloc (Nat.le_refl _) _)
          have hs5 := hs4.grown hgr5 (own_ne_snk hs3 ho3) ha3
          have hb35 : Below g w3 w5 := ((Below.refl g w3).alloc (by omega) _).grown hgr5 (by simp; omega) (by intro k hk; exact (ho3.lt k hk).1)
          have ha5 : Apart V' v5 := by
            rcases hat5 with h1 | h1
            · intro k hk; rw [h1]; exact ha3 k hk
            · intro k hk e
              rw [h1] at e
              injection e with e
              have := (hs3.2.2.lt k hk).2
              omega
          have hb05 : Below W.heap.size W w5 := hb03.trans (Below.mono hb35 hWB)
          obtain ⟨A6, c6, rfl, hr6⟩ := rowS_of_own hown6
          have hgot := got_any hs5 (by omega)
          have HASK := Lib.hid hask; clear hask
          have HGOT := Lib.hid hgot; clear hgot
          have HS5 := Lib.hid hs5; clear hs5
          have HO5 := Lib.hid hown6; clear hown6
          have HA5 := Lib.hid ha5; clear ha5
          have HAPP := Lib.hid happ; clear happ
          have HR6 := Lib.hid hr6; clear hr6
          have HL2 := Lib.hid hl2; clear hl2
          have HSS := Lib.hid hss; clear hss
          clear hoff hb3 ho3 ha3 hs4 hs3 hown5 hgr5 hat5 hat hb35
          rw [HL2.out] at HAPP HO5 HA5 HR6 HGOT
          go_wp2_with fail
          refine HASK.out.mono ?_; rintro e w4 ⟨rfl, rfl⟩
          go_wp2_with (at_builtin; refine wpList_append_run rfl _ _ 39 rfl rfl _ _ _ _ rfl rfl HAPP.out ?_)
          refine HGOT.out.mono ?_; rintro e w7 ⟨v7, rfl, ho7, hb7⟩
          have ho57 := own_kept HO5.out hb7
          rw [← HL2.out] at ho7 ho57
          obtain ⟨A7, c7, rfl, hr7⟩ := rowS_of_own ho7
          obtain ⟨A8, c8, hv8, hr8⟩ := rowS_of_own ho57
          rw [HL2.out] at hv8
          injection hv8 with e1 e2 e3
          subst e1; subst e3
          have htx := texts_any ss2 A7 A6 ss2.length c7 c6 w7 hr7 hr8 (by have := HL2.out; omega)
          rw [HL2.out] at htx
          have HTX := Lib.hid htx; clear htx
          have hs7 := HS5.out.below hb7
          have hb07 : Below W.heap.size W w7 := hb05.trans (Below.mono hb7 hb05.size)
          have HS7 := Lib.hid hs7; clear hs7
          have HO7 := Lib.hid ho57; clear ho57
          clear ho7 hr7 hr8 hb7
          rw [HL2.out]
          go_wp2_with fail
          refine HTX.out.mono ?_; rintro e w8 ⟨rfl, q, rfl⟩
          go_wp2_with fail
          refine ⟨⟨i + 1, ss2, A6, c6, V', by omega, by go_num, by rw [HL2.out], by have := HL2.out; omega, Lib.hid (by simpa using HS7.out.drewN q), Lib.hid (by have := HO7.out; rw [HL2.out] at this ⊢; exact this), by rw [HL2.out]; exact HA5, below_drewN hb07 q⟩, by simp [intOf]; omega⟩
        · have hd1 : decide (0 ≤ refuse) = true := by simp; omega
          have hd2 : decide (refuse ≤ (ss.length : Int)) = false := by simp; omega
          go_wp2_with fail
          refine HPUT.out.mono ?_; rintro e w3 ⟨rfl, V', hs3, hoff, hat⟩
          have hb3 : Below g wr w3 := hoff.below (Nat.le_refl _) (fun k hk => (HS.out.2.2.lt k hk).1) (Nat.le_of_lt HS.out.lt)
          have ho3 := own_off2 HO.out hoff (own_ne_snk HS.out HO.out) HA.out
          have ha3 : Apart V' (.slice P ss.length pc) := by
            rcases hat with h1 | ⟨b', h1, h2⟩
            · intro k hk; rw [h1] at hk; exact HA.out k hk
            · intro k hk e
              rw [h1] at hk
              injection hk with hk
              have := (HO.out.lt k e).2
              omega
          have hb03 : Below W.heap.size W w3 := hb.trans (Below.mono hb3 hWB)
          have hc3 := HCE.out w3 hb03
          have hask := asked_any hs3
          have hgw3 := hs3.lt
          obtain ⟨v5, w5, happ, hown5, hgr5, hat5⟩ := push_text w3 g (.slice P ss.length pc) ss.length _ ho3 s (by omega) (by omega)
          obtain ⟨ss2, hss⟩ : ∃ ss2, ss2 = ss ++ [s] := ⟨_, rfl⟩
          have hl2 : ss2.length = ss.length + 1 := by rw [hss]; simp
          rw [← hss] at hs3
          have hown6 : w5.ownsRow g 9 1 v5 ss2.length (ss2.map .string) := by rw [hl2, hss]; simpa using hown5
          have hs4 : SnkAt (w3.alloc (.cells #[.string s] 9)) g g refuse V' ss2 ((i : Int) + 1) := hs3.below ((Below.refl _ _).alloc (Nat.le_refl _) _)
          have hs5 := hs4.grown hgr5 (own_ne_snk hs3 ho3) ha3
          have hb35 : Below g w3 w5 := ((Below.refl g w3).alloc (by omega) _).grown hgr5 (by simp; omega) (by intro k hk; exact (ho3.lt k hk).1)
          have ha5 : Apart V' v5 := by
            rcases hat5 with h1 | h1
            · intro k hk; rw [h1]; exact ha3 k hk
            · intro k hk e
              rw [h1] at e
              injection e with e
              have := (hs3.2.2.lt k hk).2
              omega
          have hb05 : Below W.heap.size W w5 := hb03.trans (Below.mono hb35 hWB)
          obtain ⟨A6, c6, rfl, hr6⟩ := rowS_of_own hown6
          have hgot := got_any hs5 (by omega)
          have HASK := Lib.hid hask; clear hask
          have HGOT := Lib.hid hgot; clear hgot
          have HS5 := Lib.hid hs5; clear hs5
          have HO5 := Lib.hid hown6; clear hown6
          have HA5 := Lib.hid ha5; clear ha5
          have HAPP := Lib.hid happ; clear happ
          have HR6 := Lib.hid hr6; clear hr6
          have HL2 := Lib.hid hl2; clear hl2
          have HSS := Lib.hid hss; clear hss
          clear hoff hb3 ho3 ha3 hs4 hs3 hown5 hgr5 hat5 hat hb35
          rw [HL2.out] at HAPP HO5 HA5 HR6 HGOT
          go_wp2_with fail
          refine HASK.out.mono ?_; rintro e w4 ⟨rfl, rfl⟩
          go_wp2_with (at_builtin; refine wpList_append_run rfl _ _ 39 rfl rfl _ _ _ _ rfl rfl HAPP.out ?_)
          refine HGOT.out.mono ?_; rintro e w7 ⟨v7, rfl, ho7, hb7⟩
          have ho57 := own_kept HO5.out hb7
          rw [← HL2.out] at ho7 ho57
          obtain ⟨A7, c7, rfl, hr7⟩ := rowS_of_own ho7
          obtain ⟨A8, c8, hv8, hr8⟩ := rowS_of_own ho57
          rw [HL2.out] at hv8
          injection hv8 with e1 e2 e3
          subst e1; subst e3
          have htx := texts_any ss2 A7 A6 ss2.length c7 c6 w7 hr7 hr8 (by have := HL2.out; omega)
          rw [HL2.out] at htx
          have HTX := Lib.hid htx; clear htx
          have hs7 := HS5.out.below hb7
          have hb07 : Below W.heap.size W w7 := hb05.trans (Below.mono hb7 hb05.size)
          have HS7 := Lib.hid hs7; clear hs7
          have HO7 := Lib.hid ho57; clear ho57
          clear ho7 hr7 hr8 hb7
          rw [HL2.out]
          go_wp2_with fail
          refine HTX.out.mono ?_; rintro e w8 ⟨rfl, q, rfl⟩
          go_wp2_with fail
          refine ⟨⟨i + 1, ss2, A6, c6, V', by omega, by go_num, by rw [HL2.out], by have := HL2.out; omega, Lib.hid (by simpa using HS7.out.drewN q), Lib.hid (by have := HO7.out; rw [HL2.out] at this ⊢; exact this), by rw [HL2.out]; exact HA5, below_drewN hb07 q⟩, by simp [intOf]; omega⟩
    · obtain rfl : i = len := by omega
      go_wp2
      go_ret
      exact ⟨rfl, hb⟩

theorem lawSinks (A : Option Addr) (len cap : Nat) (ts : List ByteArray) (refuse : Int) (W : World) (hr : RowS W A len ts) (hsz : ∀ s ∈ ts, s.size ≤ 281474976710656) (hm : len ≤ maxLen) :
    Calls Try.prog 5 #[.int .i64 refuse, .slice A len cap] W fun e w' => e = .returned (.bool true) ∧ Below W.heap.size W w' := by
  rcases Nat.lt_or_ge 40 len with h | h
  · exact lawSinks_many A len cap refuse W h hm
  · exact lawSinks_short A len cap ts refuse W h hr hsz

/-- What came in, in my words. -/
theorem rowS_of_strs {w : World} {x : Addr} {len m : Nat} {Sx : Nat → ByteArray} (hm : len ≤ m) (h : ∀ i, i < m → w.cell? (x.add i) = some (.string (Sx i))) : RowS w (some x) len ((List.range len).map Sx) := by
  refine ⟨by simp, fun hn => ?_⟩
  obtain ⟨b, off, spot⟩ := x
  have h0 := h 0 (by omega)
  have hspot : spot = none := by simpa [Addr.add] using World.cell?_spot h0
  subst hspot
  refine ⟨b, off, rfl, World.block_lt_of_cell? w (⟨b, off, none⟩ : Addr) (by simpa [Addr.add] using h0), fun j hj => ?_⟩
  have hadd : (⟨b, off, none⟩ : Addr).add j = ⟨b, off + j, none⟩ := by unfold Addr.add; split <;> simp_all
  have := h j (by omega)
  rw [hadd] at this
  rw [this]
  simp [List.getD, hj]

theorem mem_weightsAll {H : Type} {P : Program} {e : TypeId} : ∀ {l : List (DataW H)} {d : DataW H}, d ∈ l → ∀ n ∈ d.weights P e, n ∈ DataW.weightsAll P e l
  | d0 :: l, d, hd, n, hn => by
    rw [DataW.weightsAll, List.mem_append]
    rcases List.mem_cons.1 hd with rfl | hd
    · exact .inl hn
    · exact .inr (mem_weightsAll hd n hn)
/-- The reach of a text in a list of texts that came in. -/
theorem sized_strs {H : Type} {P : Program} {ts : List TypeId} {ds : List (DataW H)} (h : (DataW.weightsEach P ts ds).all (· ≤ reachBytes) = true) {j : Nat} {t e : TypeId} {elems spare : List (DataW H)} (ht : ts[j]? = some t) (hd : ds[j]? = some (.slice elems spare)) (hu : P.underlying t = some (.slice e)) {bytes : List UInt8} (hm : DataW.lit (.string bytes) ∈ elems) : bytes.length ≤ 281474976710656 := by
  have h1 : bytes.length ∈ DataW.weightsAll P e elems := mem_weightsAll hm _ (by simp [DataW.weights])
  have := List.all_eq_true.1 h _ (DataW.weights_mem_each ht hd bytes.length (by simp only [DataW.weights, hu]; simp [h1]))
  have h2 : bytes.length ≤ reachBytes := by simpa using this
  unfold reachBytes at h2
  omega
end Go.Proofs.Ytgmaiickfpgeoaa
