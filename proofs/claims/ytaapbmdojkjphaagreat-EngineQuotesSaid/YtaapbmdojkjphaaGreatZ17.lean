/- Texts. -/
import Derived.Test.YtaapbmdojkjphaaGreatZ01
import Derived.Test.YtaapbmdojkjphaaGreatZ02
import Derived.Test.YtaapbmdojkjphaaGreatZ03
import Derived.Test.YtaapbmdojkjphaaGreatZ04
import Derived.Test.YtaapbmdojkjphaaGreatZ10
import Derived.Test.YtaapbmdojkjphaaGreatZ16
import Derived.Lib.Hide
import Derived.Laws.BytesArg
import Derived.IntWalk
import Derived.Laws.IdiomStrings
import Derived.Handy
import Derived.Lib.MinMax
import Derived.Deep.DeepCutAuto
import Derived.Deep.CutBlock
namespace Go.Proofs.YtaapbmdojkjphaaGreat
open Go Go.RowKit
set_option linter.unusedVariables false
set_option maxRecDepth 20000
theorem nums_cut (s : ByteArray) (a b : Nat) : nums (s.extract a b) = ((nums s).drop a).take (b - a) := by
  unfold nums
  rw [← List.map_drop, ← List.map_take]
  congr 1
  rw [ByteArray.data_extract, Array.toList_extract]
theorem cut_str (s : ByteArray) {a b : Nat} (hab : a ≤ b) (hb : b ≤ s.size) : ∃ S : ByteArray, S.size = b - a ∧ nums S = ((nums s).drop a).take (b - a) ∧ ∀ w : World, (Instr.slice 9 (.string s) (some (.int .i64 (a : Int))) (some (.int .i64 (b : Int))) none).run Tryz.prog w = .ok (.string S) w := by
  refine ⟨s.extract a b, by rw [ByteArray.size_extract]; omega, nums_cut s a b, fun w => ?_⟩
  have hr := run_slice_string (P := Tryz.prog) w 9 s .i64 .i64 (a : Int) (b : Int) Tryz.underlying9 (by omega) (by omega) (by omega)
  rw [Int.toNat_natCast, Int.toNat_natCast] at hr
  exact hr
set_option maxHeartbeats 2000000 in
theorem msize_any (s : ByteArray) (a : Nat) (w : World) (ha : a < s.size) (hs : s.size ≤ 1000000) :
    Calls Tryz.prog 83 #[.string s, .int .i64 (a : Int)] w fun e w' => e = .returned (.int .i64 (szT (nums s) a : Nat)) ∧ Below w.heap.size w w' := by
  have hnl := nums_length s
  obtain ⟨m, hm⟩ : ∃ m : Nat, m = min (a + 4) s.size := ⟨_, rfl⟩
  have hmi : min ((a : Int) + 4) (s.size : Int) = (m : Int) := by omega
  obtain ⟨S, hS1, hS2, hcut⟩ := cut_str s (a := a) (b := m) (by omega) (by omega)
  obtain ⟨A, c, w1, hrun, hrow, hc1, hc2, hb⟩ := bytes_run S w (by unfold maxLen; omega)
  have hget := get_any A S.size c (nums S) w1 hrow (nums_byte S) hc1 hc2 (by omega)
  have hp := szT_pos (T := nums s) (a := a) (by omega)
  have hgt : getI (nums S) = getI ((nums s).drop a) := by
    rw [hS2]
    have h2 := szT_eq (T := nums s) (a := a) (by omega)
    refine getI_take (by rw [← h2]; have := hp.2.2; have := hp.2.1; omega) ?_ (by omega)
    rcases Nat.lt_or_ge s.size (a + 4) with h3 | h3
    · left; rw [List.length_drop]; omega
    · right; left; omega
  rw [hgt, show (getI ((nums s).drop a)).2 = (szT (nums s) a : Nat) from (szT_eq (by omega)).symm] at hget
  have HG := Lib.hid hget
  have HB := Lib.hid hb
  have HH := Lib.hid (And.intro hm (And.intro hS1 (And.intro hS2 hrow)))
  have h1 : (a : Int) + 4 ≤ 1000004 := by omega
  clear hget hb hrow hS2 hgt hp hnl hc1 hc2 hm hS1
  go_enter Tryz.func83, Tryz.ntmps83
  go_wp2_with (go_at_call 27; (with_reducible refine HG.out.mono ?_); rintro e w2 ⟨rfl, q, rfl⟩)
  go_ret
  exact ⟨rfl, below_drewN HB.out q⟩
def plB (T : List Int) (a : Int) : Bool := decide (0 ≤ a) && decide (a.toNat ∈ atT T)
theorem plB_iff {T : List Int} {a : Int} : plB T a = true ↔ 0 ≤ a ∧ IsPl T a.toNat := by
  unfold plB IsPl
  rw [Bool.and_eq_true, decide_eq_true_eq, decide_eq_true_eq, List.mem_iff_getElem?]
theorem plB_false {T : List Int} {a : Int} (h : ¬ (0 ≤ a ∧ IsPl T a.toNat)) : plB T a = false := by
  cases hb : plB T a with
  | false => rfl
  | true => exact absurd (plB_iff.1 hb) h
set_option maxHeartbeats 2000000 in
theorem isPlace_any (s : ByteArray) (a : Int) (w : World) (hs : s.size ≤ 1000000) :
    Calls Tryz.prog 49 #[.string s, .int .i64 a] w fun e w' => e = .returned (.bool (plB (nums s) a)) ∧ Below w.heap.size w w' := by
  have hnl := nums_length s
  obtain ⟨R, hR⟩ : ∃ R, R = plB (nums s) a := ⟨_, rfl⟩
  rw [← hR]
  by_cases h0 : a < 0
  · have hf : R = false := by rw [hR]; exact plB_false (by omega)
    subst hf
    clear hR
    go_enter Tryz.func49, Tryz.ntmps49
    go_wp2
    go_ret
    exact ⟨rfl, Below.refl _ _⟩
  by_cases h1 : a > (s.size : Int)
  · have hf : R = false := by
      rw [hR]
      refine plB_false fun ⟨h2, k, hk⟩ => ?_
      have := atT_le hk
      omega
    subst hf
    clear hR
    go_enter Tryz.func49, Tryz.ntmps49
    go_wp2
    go_ret
    exact ⟨rfl, Below.refl _ _⟩
  obtain ⟨n, rfl⟩ : ∃ n : Nat, a = (n : Int) := Int.eq_ofNat_of_zero_le (by omega)
  have hn : n ≤ s.size := by omega
  clear h0
  obtain ⟨b0, hb0⟩ : ∃ b0 : Nat, b0 = n - 3 := ⟨_, rfl⟩
  have hmx : max ((n : Int) - 4 + 1) 0 = (b0 : Int) := by omega
  have hiff := isPl_iff (T := nums s) (a := n) (by omega)
  have HN := Lib.hid (And.intro hnl (And.intro hb0 (And.intro hR hiff)))
  clear hnl hb0 hR hiff
  go_enter Tryz.func49, Tryz.ntmps49
  go_wp2_with fail
  go_loopw [5] (fun v5 wr => ∃ b : Nat, v5 = .int .i64 (b : Int) ∧ Hid ((b ≤ n ∨ b = b0) ∧ (∀ c, c < b → n - 3 ≤ c → ¬ n - c < szT (nums s) c) ∧ Below w.heap.size w wr)) (fun v5 _ => n - (intOf v5).toNat)
  case atStart => exact ⟨b0, rfl, Lib.hid ⟨.inr rfl, fun c h1 h2 => by have := HN.out.2.1; omega, Below.refl _ _⟩⟩
  case round =>
    obtain ⟨b, rfl, H⟩ := hrel
    by_cases hlt : b < n
    · have hb1 : (b : Int) < (n : Int) := by omega
      have HS := Lib.hid (msize_any s b wr (by omega) hs)
      obtain ⟨z, hz⟩ : ∃ z, z = szT (nums s) b := ⟨_, rfl⟩
      rw [← hz] at HS
      have hp := szT_pos (T := nums s) (a := b) (by have := HN.out.1; omega)
      rw [← hz] at hp
      have hz4 : (z : Int) ≤ 4 := by omega
      have HZ := Lib.hid hz
      clear hz hp
      by_cases hgt : n - b < z
      · have hg : (n : Int) - (b : Int) < (z : Int) := by omega
        have hf : R = false := by
          rw [HN.out.2.2.1]
          refine plB_false fun ⟨_, h⟩ => ?_
          rw [Int.toNat_natCast] at h
          exact HN.out.2.2.2.1 h b hlt (by have := HZ.out; have := szT_pos (T := nums s) (a := b) (by have := HN.out.1; omega); omega) (by rw [← HZ.out]; exact hgt)
        subst hf
        go_wp2_with (go_at_call 83; (with_reducible refine HS.out.mono ?_); rintro e w2 ⟨rfl, hb2⟩; have HB := Lib.hid (H.out.2.2.trans (hb2.mono H.out.2.2.size)); clear hb2)
        go_ret
        exact ⟨rfl, HB.out⟩
      · have hg : ¬ (n : Int) - (b : Int) < (z : Int) := by omega
        have HG := Lib.hid hgt
        clear hgt
        go_wp2_with (go_at_call 83; (with_reducible refine HS.out.mono ?_); rintro e w2 ⟨rfl, hb2⟩; have HB := Lib.hid (H.out.2.2.trans (hb2.mono H.out.2.2.size)); clear hb2)
        refine ⟨⟨b + 1, rfl, Lib.hid ⟨.inl hlt, fun c h1 h2 => ?_, HB.out⟩⟩, by simp [intOf]; omega⟩
        rcases Nat.lt_or_ge c b with h3 | h3
        · exact H.out.2.1 c h3 h2
        · obtain rfl : c = b := by omega
          rw [← HZ.out]
          exact HG.out
    · have hb1 : ¬ (b : Int) < (n : Int) := by omega
      have ht : R = true := by
        rw [HN.out.2.2.1]
        exact plB_iff.2 ⟨by omega, HN.out.2.2.2.2 fun c h1 h2 => H.out.2.1 c (by omega) h2⟩
      subst ht
      go_wp2
      go_ret
      exact ⟨rfl, H.out.2.2⟩
def iN (l : List Nat) : List Int := l.map fun x : Nat => (x : Int)
set_option maxHeartbeats 2000000 in
theorem places_any (s : ByteArray) (w : World) (hs : s.size ≤ 10000) :
    Calls Tryz.prog 95 #[.string s] w fun e w' => ∃ P q pc, e = .returned (.slice P q pc) ∧ w'.ownsRow w.heap.size 3 1 (.slice P q pc) q ((iN (atT (nums s))).map (.int .i64)) ∧ Below w.heap.size w w' := by
  have hnl := nums_length s
  have HN := Lib.hid hnl
  clear hnl
  go_enter Tryz.func95, Tryz.ntmps95
  go_wp2_with fail
  go_loopw [3, 4] (fun v3 v4 wr => ∃ (k a : Nat) (P : Option Addr) (pc : Nat), v3 = .slice P (k + 1) pc ∧ v4 = .int .i64 (a : Int) ∧ k ≤ s.size ∧ Hid (k ≤ (rsT (nums s)).length ∧ (atT (nums s))[k]? = some a ∧ wr.ownsRow w.heap.size 3 1 (.slice P (k + 1) pc) (k + 1) ((iN ((atT (nums s)).take (k + 1))).map (.int .i64)) ∧ Below w.heap.size w wr)) (fun _ v4 _ => s.size - (intOf v4).toNat)
  case atStart =>
    refine ⟨0, 0, _, _, rfl, rfl, Nat.zero_le _, Lib.hid ⟨Nat.zero_le _, rfl, ?_, (Below.refl _ _).alloc (Nat.le_refl _) _⟩⟩
    exact ⟨rfl, .inr ⟨w.heap.size, 1, #[.int .i64 0], rfl, Nat.le_refl _, heap_alloc_new _ _, by decide, by unfold maxLen; omega, rfl, rfl⟩⟩
  case round =>
    obtain ⟨k, a, P, pc, rfl, rfl, hks, H⟩ := hrel
    by_cases hlt : a < s.size
    · have hkm : k < (rsT (nums s)).length := by
        rcases Nat.lt_or_ge k (rsT (nums s)).length with h | h
        · exact h
        · have := (atT_end H.out.1 H.out.2.1).2 (by have := H.out.1; omega)
          have := HN.out
          omega
      obtain ⟨h1, h2, h3⟩ := atT_next hkm H.out.2.1
      have hp := szT_pos h1
      obtain ⟨z, hz⟩ : ∃ z, z = szT (nums s) a := ⟨_, rfl⟩
      have HS := Lib.hid (msize_any s a wr hlt (by omega))
      rw [← hz] at HS hp h2
      have hz4 : (z : Int) ≤ 4 := by omega
      have ha1 : (a : Int) < (s.size : Int) := by omega
      have hrl := rsT_le (T := nums s)
      have HZ := Lib.hid (And.intro hkm (And.intro h2 (And.intro hp hrl)))
      clear h1 h2 h3 hp hz hkm hrl
      go_wp2_with (first
        | (go_at_call 83; (with_reducible refine HS.out.mono ?_); rintro e w2 ⟨rfl, hb2⟩; have HB2 := Lib.hid hb2; obtain ⟨P', pc', w3, happ, ho, hb3, _⟩ := pushI_at (ownI_kept H.out.2.2.1 hb2) (by omega) (H.out.2.2.2.trans (hb2.mono H.out.2.2.2.size)) ((a : Int) + (z : Int)); have HAPP := Lib.hid happ; have HO := Lib.hid (And.intro ho hb3); clear happ ho hb3 hb2)
        | (at_builtin; refine wpList_append_run rfl (.tmp 15) (.tmp 17) 46 rfl rfl _ _ _ _ rfl rfl HAPP.out ?_))
      have hz := HZ.out
      refine ⟨⟨k + 1, a + z, P', pc', rfl, rfl, by have := HN.out; omega, Lib.hid ⟨hz.1, hz.2.1, ?_, HO.out.2⟩⟩, by simp [intOf]; omega⟩
      have htk : (atT (nums s)).take (k + 1 + 1) = (atT (nums s)).take (k + 1) ++ [a + z] := by rw [List.take_add_one (i := k + 1), hz.2.1]; rfl
      have hi : iN ((atT (nums s)).take (k + 1 + 1)) = iN ((atT (nums s)).take (k + 1)) ++ [(a : Int) + (z : Int)] := by rw [htk]; simp [iN]
      rw [hi]
      exact HO.out.1
    · have hkm : k = (rsT (nums s)).length := by
        have := atT_le H.out.2.1
        exact (atT_end H.out.1 H.out.2.1).1 (by have := HN.out; omega)
      have HK := Lib.hid hkm
      clear hkm
      have ha1 : ¬ (a : Int) < (s.size : Int) := by omega
      go_wp2
      go_ret
      refine ⟨P, k + 1, pc, rfl, ?_, H.out.2.2.2⟩
      have := H.out.2.2.1
      rwa [List.take_of_length_le (by rw [atT_len, HK.out]; exact Nat.le_refl _)] at this
end Go.Proofs.YtaapbmdojkjphaaGreat
namespace Go.Proofs.YtaapbmdojkjphaaGreat
open Go Go.RowKit
set_option linter.unusedVariables false
set_option maxRecDepth 20000
theorem slook_any (x y r : Int) (g : Nat) (W : World) (hg : W.cell? ⟨g, 0, none⟩ = some (.int .i64 r)) (hlt : g < W.heap.size) :
    Calls Tryz.prog 136 #[.agg #[.int .i64 x, .int .i64 y], .pointer (some ⟨g, 0, none⟩)] W fun e w' => e = .returned (.bool (decide (x ≤ r ∧ r ≤ y))) ∧ Below W.heap.size W w' := by
  have hg2 := ((Below.refl W.heap.size W).alloc (Nat.le_refl _) (.cells #[.int .i64 x, .int .i64 y] 74)).cell (p := ⟨g, 0, none⟩) hlt
  rw [hg] at hg2
  have HB := Lib.hid ((Below.refl W.heap.size W).alloc (Nat.le_refl _) (.cells #[.int .i64 x, .int .i64 y] 74))
  clear hg
  generalize hB : decide (x ≤ r ∧ r ≤ y) = B
  go_enter Tryz.func136, Tryz.ntmps136
  by_cases h1 : x ≤ r
  · by_cases h2 : r ≤ y
    · have HF : Hid (B = true) := Lib.hid (hB ▸ decide_eq_true ⟨h1, h2⟩)
      clear hB
      go_wp2
      go_ret
      rw [HF.out]
      exact ⟨rfl, HB.out⟩
    · have HF : Hid (B = false) := Lib.hid (hB ▸ decide_eq_false (by omega))
      clear hB
      go_wp2
      go_ret
      rw [HF.out]
      exact ⟨rfl, HB.out⟩
  · have HF : Hid (B = false) := Lib.hid (hB ▸ decide_eq_false (by omega))
    clear hB
    go_wp2
    go_ret
    rw [HF.out]
    exact ⟨rfl, HB.out⟩
set_option maxHeartbeats 1000000 in
theorem sindex_any (s : List (Int × Int)) (A : Option Addr) (n c : Nat) (r : Int) (g : Nat) (W : World) (hin : RowG W A n s) (hn : n ≤ 2000000) (hg : W.cell? ⟨g, 0, none⟩ = some (.int .i64 r)) (hlt : g < W.heap.size) :
    Calls Tryz.prog 153 #[.slice A n c, .func (.func 136) #[] #[.pointer (some ⟨g, 0, none⟩)]] W fun e w' => ∃ i : Int, e = .returned (.int .i64 i) ∧ decide (0 ≤ i) = (s.any fun p => decide (p.1 ≤ r ∧ r ≤ p.2)) ∧ Below W.heap.size W w' := by
  have HR := Lib.hid hin; clear hin
  have HG := Lib.hid (And.intro hg hlt); clear hg hlt
  go_enter Tryz.func153, Tryz.ntmps153
  go_wp2
  go_loopw [8] (fun vi wr => ∃ (k : Nat), vi = .int .i64 (k : Int) ∧ k ≤ n ∧ Hid (((s.take k).any fun p => decide (p.1 ≤ r ∧ r ≤ p.2)) = false ∧ Below W.heap.size W wr)) (fun vi _ => n - (intOf vi).toNat)
  case atStart => exact ⟨0, rfl, Nat.zero_le _, Lib.hid ⟨rfl, Below.refl _ _⟩⟩
  case round =>
    obtain ⟨k, rfl, hk, HO⟩ := hrel
    by_cases hl : k < n
    · obtain ⟨b, o, rfl, hbw, hc⟩ := HR.out.2 (by omega)
      obtain ⟨c0, c1⟩ := hc k hl
      have d0 := (HO.out.2.cell (p := ⟨b, o + k * 2, none⟩) hbw).trans c0
      have d1 := (HO.out.2.cell (p := ⟨b, o + k * 2 + 1, none⟩) hbw).trans c1
      have hts := take_snoc (t := s) (k := k) (by have := HR.out.1; omega)
      have hm : s.getD k (0, 0) ∈ s := by rw [getD_in k (by have := HR.out.1; omega)]; exact List.getElem_mem _
      obtain ⟨p, hp⟩ : ∃ p, p = s.getD k (0, 0) := ⟨_, rfl⟩
      rw [← hp] at d0 d1 hts hm
      obtain ⟨x, y⟩ := p
      have HT := Lib.hid (And.intro hts hm)
      clear hc c0 c1 hp hts hm
      dsimp only at d0 d1
      have HC := Lib.hid (slook_any x y r g wr ((HO.out.2.cell (p := ⟨g, 0, none⟩) HG.out.2).trans HG.out.1) (Nat.lt_of_lt_of_le HG.out.2 HO.out.2.size))
      by_cases hxy : x ≤ r ∧ r ≤ y
      · go_wp2_with (go_at_call 136; refine HC.out.mono ?_; rintro e w1 ⟨rfl, hb1⟩; rw [decide_eq_true hxy]; have HB1 := Lib.hid (HO.out.2.trans (hb1.mono HO.out.2.size)); clear hb1)
        go_ret
        refine ⟨k, rfl, ?_, HB1.out⟩
        rw [decide_eq_true (by omega)]
        exact (List.any_eq_true.2 ⟨(x, y), HT.out.2, decide_eq_true hxy⟩).symm
      · go_wp2_with (go_at_call 136; refine HC.out.mono ?_; rintro e w1 ⟨rfl, hb1⟩; rw [decide_eq_false hxy]; have HB1 := Lib.hid (And.intro (show ((s.take (k + 1)).any fun p => decide (p.1 ≤ r ∧ r ≤ p.2)) = false by rw [HT.out.1, List.any_append, HO.out.1]; simp only [List.any_cons, List.any_nil, Bool.or_false, Bool.false_or]; exact decide_eq_false hxy) (HO.out.2.trans (hb1.mono HO.out.2.size))); clear hb1)
        exact ⟨⟨k + 1, by go_num, by omega, HB1⟩, by simp [intOf]; omega⟩
    · have hkn : k = n := by omega
      subst hkn
      have HF : Hid ((s.any fun p => decide (p.1 ≤ r ∧ r ≤ p.2)) = false) := Lib.hid (by
        have := HO.out.1
        rwa [List.take_of_length_le (by have := HR.out.1; omega)] at this)
      go_wp2
      go_ret
      exact ⟨-1, rfl, by rw [HF.out]; rfl, HO.out.2⟩
set_option maxHeartbeats 1000000 in
theorem shas_any (s : List (Int × Int)) (A : Option Addr) (n c : Nat) (r : Int) (W : World) (hin : RowG W A n s) (hn : n ≤ 2000000) :
    Calls Tryz.prog 118 #[.slice A n c, .int .i64 r] W fun e w' => e = .returned (.bool (hasL s r)) ∧ Below W.heap.size W w' := by
  have hb : Below W.heap.size W (W.alloc (.cells #[.int .i64 r] 3)) := (Below.refl _ _).alloc (Nat.le_refl _) _
  have HC := Lib.hid (sindex_any s A n c r W.heap.size _ (hin.below hb (Nat.le_refl _)) hn (by rw [cell_of_row _ W.heap.size 0 _ _ (0, 0) (heap_alloc_new W _)]; rfl) (by simp))
  have HB := Lib.hid hb
  clear hb hin
  go_enter Tryz.func118, Tryz.ntmps118
  by_cases h0 : r < 0
  · have HF : Hid (hasL s r = false) := Lib.hid (by
      cases hx : hasL s r with
      | false => rfl
      | true => have := hasL_in hx; omega)
    go_wp2
    go_ret
    rw [HF.out]
    exact ⟨rfl, HB.out⟩
  · by_cases h1 : r > 1114111
    · have HF : Hid (hasL s r = false) := Lib.hid (by
        cases hx : hasL s r with
        | false => rfl
        | true => have := hasL_in hx; omega)
      go_wp2
      go_ret
      rw [HF.out]
      exact ⟨rfl, HB.out⟩
    · have HF : Hid (hasL s r = (s.any fun p => decide (p.1 ≤ r ∧ r ≤ p.2))) := Lib.hid (by
        unfold hasL
        congr 1
        funext p
        apply decide_eq_decide.2
        omega)
      go_wp2_with (first
        | (go_at_call 135; go_in)
        | (go_at_call 153; refine HC.out.mono ?_; rintro e w1 ⟨i, rfl, hi, hb1⟩; have HI := Lib.hid (And.intro hi (then_ HB.out hb1)); clear hi hb1))
      go_ret
      rw [HF.out, ← HI.out.1]
      exact ⟨rfl, HI.out.2⟩
end Go.Proofs.YtaapbmdojkjphaaGreat
namespace Go.Proofs.YtaapbmdojkjphaaGreat
open Go Go.RowKit
set_option linter.unusedVariables false
set_option maxRecDepth 20000
theorem spot_elem : Tryz.prog.elem 131 = 155 := by kernel_rfl
theorem spot_size (w : World) : (sizeOf 155).run Tryz.prog w = .ok 2 w := by kernel_rfl
theorem spot_slice : Tryz.prog.underlying 131 = some (.slice (Tryz.prog.elem 131)) := by rw [spot_elem]; exact Tryz.underlying131
theorem spots_upto (A : Option Addr) (n c h : Nat) (hh : h ≤ c) (w : World) :
    (Instr.slice 131 (.slice A n c) none (some (.int .i64 (h : Int))) none).run Tryz.prog w = .ok (.slice A h c) w := by
  have hr := run_slice_h (P := Tryz.prog) (w := w) (t := 131) (a := A) (len := n) (cap := c) (ht := spot_slice) (kh := .i64) (h := (h : Int)) (h0 := by omega) (h2 := by omega)
  rw [hr, spot_elem, spot_size]
  have ha : (if c = 0 then A else A.map fun x => x.add (0 * 2)) = A := by
    split
    · rfl
    · cases A <;> simp [Addr.add]
  simp [Result.andThen, sliced]
  simpa using ha
theorem bytes_fun (s : ByteArray) (hs : s.size ≤ maxLen) : ∃ (fA : World → Option Addr) (fc : World → Nat) (fW : World → World), ∀ w, (convert 9 41 (.string s)).run Tryz.prog w = .ok (.slice (fA w) s.size (fc w)) (fW w) ∧ RowI .u8 (fW w) (fA w) s.size (nums s) ∧ s.size ≤ fc w ∧ fc w ≤ maxLen ∧ Below w.heap.size w (fW w) := by
  have h : ∀ w, ∃ x : Option Addr × Nat × World, (convert 9 41 (.string s)).run Tryz.prog w = .ok (.slice x.1 s.size x.2.1) x.2.2 ∧ RowI .u8 x.2.2 x.1 s.size (nums s) ∧ s.size ≤ x.2.1 ∧ x.2.1 ≤ maxLen ∧ Below w.heap.size w x.2.2 := fun w => by
    obtain ⟨A, c, w', h1, h2, h3, h4, h5⟩ := bytes_run s w hs
    exact ⟨(A, c, w'), h1, h2, h3, h4, h5⟩
  obtain ⟨f, hf⟩ := Classical.axiomOfChoice h
  exact ⟨fun w => (f w).1, fun w => (f w).2.1, fun w => (f w).2.2, hf⟩
theorem own_cut0 {w : World} {B : Nat} {A : Option Addr} {n c : Nat} {xs : List (Nat × Nat)} (h : w.ownsRow B 155 2 (.slice A n c) n (cellsS xs)) : w.ownsRow B 155 2 (.slice A 0 c) 0 (cellsS []) ∧ (Value.slice A 0 c).ownBlock = (Value.slice A n c).ownBlock := by
  rcases h.2 with ⟨e, h0⟩ | ⟨b, cap, cur, e, hB, hb, hnc, hcm, hcs, ht⟩
  · injection e with e1 e2 e3
    subst e1; subst e3
    exact ⟨⟨rfl, .inl ⟨rfl, rfl⟩⟩, rfl⟩
  · injection e with e1 _ e3
    subst e1; subst e3
    exact ⟨⟨rfl, .inr ⟨b, c, cur, rfl, hB, hb, Nat.zero_le _, hcm, hcs, rfl⟩⟩, rfl⟩
theorem WalkC.swap {B g mb : Nat} {e : WEnv} {w : World} {at_ : Nat} {H : Option Addr} {hn hc : Nat} {here : List (Nat × Nat)} {L : Option Addr} {ln lc : Nat} {last : List (Nat × Nat)} {met : List Int} (h : WalkC B g mb e w at_ H hn hc here L ln lc last met) (tq : Nat) :
    WalkC B g mb e (((w.setCell ⟨g, 3, none⟩ (.int .i64 (tq : Int))).setCell ⟨g, 4, none⟩ (.slice L 0 lc)).setCell ⟨g, 5, none⟩ (.slice H hn hc)).drew tq L 0 lc [] H hn hc here met ∧
    Tch B g mb w (((w.setCell ⟨g, 3, none⟩ (.int .i64 (tq : Int))).setCell ⟨g, 4, none⟩ (.slice L 0 lc)).setCell ⟨g, 5, none⟩ (.slice H hn hc)).drew := by
  have hoth : ∀ k, k ≠ g → (((w.setCell ⟨g, 3, none⟩ (.int .i64 (tq : Int))).setCell ⟨g, 4, none⟩ (.slice L 0 lc)).setCell ⟨g, 5, none⟩ (.slice H hn hc)).heap[k]? = w.heap[k]? := fun k hk =>
    (Below.heap_setCell _ _ _ _ hk).trans ((Below.heap_setCell _ _ _ _ hk).trans (Below.heap_setCell _ _ _ _ hk))
  have hb : Below B w (((w.setCell ⟨g, 3, none⟩ (.int .i64 (tq : Int))).setCell ⟨g, 4, none⟩ (.slice L 0 lc)).setCell ⟨g, 5, none⟩ (.slice H hn hc)).drew :=
    ((((Below.refl B w).setCell (p := ⟨g, 3, none⟩) h.hB _).setCell (p := ⟨g, 4, none⟩) h.hB _).setCell (p := ⟨g, 5, none⟩) h.hB _).drew
  have hg0 := heap_setCell_same w g 3 _ _ (.int .i64 (tq : Int)) h.hg
  have hg1 := heap_setCell_same _ g 4 _ _ (.slice L 0 lc) hg0
  have hg2 := heap_setCell_same _ g 5 _ _ (.slice H hn hc) hg1
  obtain ⟨o1, o2⟩ := own_cut0 h.old
  have h1 : WalkC B g mb e (((w.setCell ⟨g, 3, none⟩ (.int .i64 (tq : Int))).setCell ⟨g, 4, none⟩ (.slice L 0 lc)).setCell ⟨g, 5, none⟩ (.slice H hn hc)).drew tq L 0 lc [] H hn hc here met := by
    refine ⟨hg2.trans rfl, (hoth mb (Ne.symm h.lt.2.2)).trans h.hm, h.hml, h.hB, h.hBm, row_keep o1 fun k hk hv => hoth k fun e => row_ne_blk o1 h.hg (by decide) (by rw [hv, e]), row_keep h.row fun k hk hv => hoth k fun e => row_ne_blk h.row h.hg (by decide) (by rw [hv, e]), fun b h1 h2 => h.ne b h2 (o2 ▸ h1), h.ins.below hb, h.ways.below hb, h.win, h.small⟩
  exact ⟨h1, tch_of h h1 hb fun k hk k1 k2 k3 k4 => ⟨hoth k k1, by rw [o2]; exact k4, k3⟩⟩
set_option maxHeartbeats 8000000 in
theorem step_any {full : Prop} {B g mb : Nat} {e : WEnv} {w : World} {at_ : Nat} {here : List (Nat × Nat)} {last : SRow} {met : List Int} (h : WalkS B g mb e w at_ here last met) (hnd : (here.map Prod.fst).Nodup) (hin : ∀ x ∈ here, x.1 < e.n)
    (tq lo hi : Nat) (hlo : min at_ tq = lo) (hhi : max at_ tq = hi) (hT : hi ≤ e.T.size) (hfr : full → ∀ x ∈ met, x ≠ (tq : Int)) (r : Int) (hr : r = (getI (((nums e.T).drop lo).take (hi - lo))).1) :
    Calls Tryz.prog 90 #[.pointer (some ⟨g, 0, none⟩), .int .i64 (tq : Int)] w fun en w' => en = .returned (.tuple #[]) ∧ ∃ here' last' met', WalkM full B g mb e w' tq here' last' met' ∧ Tch B g mb w w' ∧ MetIn tq met met' ∧ (full → Steps (WE e.p e.W e.T.size tq) (meets e.p e.W r here) here') := by
  obtain ⟨H, hn, hc, hC⟩ := h
  obtain ⟨c0, c1, c2, c3, c4, c5, c6, hf⟩ := hC.cells
  obtain ⟨LA, Ln, Lc, Lx⟩ := last
  simp only at hC c5
  have hgl := hC.lt.1
  have hsm := hC.small.2.1
  obtain ⟨S, hS1, hS2, hcut⟩ := cut_str e.T (a := lo) (b := hi) (by omega) hT
  obtain ⟨fA, fc, fW, hcv⟩ := bytes_fun S (by unfold maxLen; omega)
  have hmin : min (at_ : Int) (tq : Int) = (lo : Int) := by omega
  have hmax : max (at_ : Int) (tq : Int) = (hi : Int) := by omega
  have hrun := fun w => (hcv w).1
  have k1 : ∀ w', Below w.heap.size w w' → w'.cell? ⟨g, 1, none⟩ = some (.string e.T) := fun w' hb => (hb.cell (p := ⟨g, 1, none⟩) hgl).trans c1
  have k3 : ∀ w', Below w.heap.size w w' → w'.cell? ⟨g, 3, none⟩ = some (.int .i64 (at_ : Int)) := fun w' hb => (hb.cell (p := ⟨g, 3, none⟩) hgl).trans c3
  have HF := Lib.hid fun (w' : World) (hb : Below w.heap.size w w') => hb.trans ((hcv w').2.2.2.2.mono hb.size)
  have HG := Lib.hid fun (w' : World) (hb : Below w.heap.size w w') => (get_any (fA w') S.size (fc w') (nums S) (fW w') (hcv w').2.1 (nums_byte S) (hcv w').2.2.1 (hcv w').2.2.2.1 (by omega)).mono (R' := fun en w'' => en = .returned (.tuple #[.int .i64 (getI (nums S)).1, .int .i64 (getI (nums S)).2]) ∧ Below w.heap.size w w'') fun en w'' ⟨h1, q, h2⟩ => ⟨h1, by rw [h2]; exact below_drewN (hb.trans ((hcv w').2.2.2.2.mono hb.size)) q⟩
  rw [hS2, ← hr] at HG
  obtain ⟨r2, hr2⟩ : ∃ r2, r2 = (getI (((nums e.T).drop lo).take (hi - lo))).2 := ⟨_, rfl⟩
  rw [← hr2, hS1] at HG
  rw [hS1] at hrun
  have hb0 : Below w.heap.size w w.drew := (Below.refl _ _).drew
  have HC := Lib.hid (And.intro hC (And.intro hnd (And.intro hin hfr)))
  have hb1 : (lo : Int) ≤ (hi : Int) := by omega
  have hb2 : (hi : Int) ≤ (e.T.size : Int) := by omega
  clear hS1 hC c0 c1 c2 c3 c4 c5 c6 hf hnd hin hfr hr hr2 hS2 hlo hhi hcv
  go_enter Tryz.func90, Tryz.ntmps90
  go_upto_region 0 with fail
  go_cut [4] (fun s4 wx => s4 = .int .i64 r ∧ Hid (Below w.heap.size w wx))
  case first =>
    go_region_held (fun w' => Below w.heap.size w w') (first | assumption | exact HF.out _ (by assumption)) (first
      | (go_at_call 27; (with_reducible refine (HG.out _ (by assumption)).mono ?_); rintro en w' ⟨rfl, hb'⟩))
    all_goals
      go_wp2_with fail
      go_meet
      exact ⟨rfl, Lib.hid (by assumption)⟩
  case rest =>
    obtain ⟨rfl, HW⟩ := hcut
    have hCc := HC.out.1.below HW.out
    obtain ⟨c0, c1, c2, c3, c4, c5, c6, hf⟩ := hCc.cells
    have f3 := hf 3
    have f4 := hf 4
    have f5 := hf 5
    have hsl := fun w => spots_upto LA Ln Lc 0 (Nat.zero_le _) w
    have HCc := Lib.hid hCc
    clear hCc c0 c1 c2 c6 hf hcut hrun k1 k3 hb0 hb1 hb2 hmin hmax HF HG
    go_wp2_with fail
    go_region
    obtain ⟨hS1, hS2⟩ := HCc.out.swap tq
    have hTw : Tch B g mb w wc := Tch.of_below HW.out (by have := HC.out.1.lt; have := HC.out.1.hB; omega) hgl
    have hT1 := hTw.trans hS2
    generalize (((wc.setCell ⟨g, 3, none⟩ (.int .i64 (tq : Int))).setCell ⟨g, 4, none⟩ (.slice LA 0 Lc)).setCell ⟨g, 5, none⟩ (.slice H hn hc)).drew = w1 at hS1 hT1 ⊢
    have d5 := hS1.cells.2.2.2.2.2.1
    have hM1 : WalkM full B g mb e w1 tq [] ⟨H, hn, hc, here⟩ met := ⟨⟨_, _, _, hS1⟩, fun i hi => by simp at hi, fun hf i hi => absurd rfl (HC.out.2.2.2 hf _ (List.mem_of_getElem? hi)), List.Pairwise.nil, fun x hx => by simp at hx⟩
    have HM1 := Lib.hid (And.intro hM1 hT1)
    have hnn : hn ≤ 1000 := by have := own_len HC.out.1.row; have := here_len HC.out.2.1 HC.out.2.2.1; have := HC.out.1.small.1; omega
    clear hS1 hS2 hTw hT1 hM1 c3 c4 c5 f3 f4 f5 hsl
    go_wp2_with fail
    go_loopw [57] (fun v57 wq => ∃ (k : Nat) (here1 : List (Nat × Nat)) (met1 : List Int), v57 = .int .i64 (k : Int) ∧ k ≤ hn ∧ Hid (WalkM full B g mb e wq tq here1 ⟨H, hn, hc, here⟩ met1 ∧ Tch B g mb w wq ∧ MetIn tq met met1 ∧ (full → Steps (WE e.p e.W e.T.size tq) (meets e.p e.W r (here.take k)) here1))) (fun v57 _ => hn - (intOf v57).toNat)
    case atStart => exact ⟨0, [], met, rfl, Nat.zero_le _, Lib.hid ⟨HM1.out.1, HM1.out.2, fun x hx => .inl hx, fun _ => .nil⟩⟩
    case round =>
      obtain ⟨k, here1, met1, rfl, hk, H1⟩ := hrel
      by_cases hlt : k < hn
      · have hhl : here.length = hn := own_len HC.out.1.row
        obtain ⟨s, hs⟩ : ∃ s, here[k]? = some s := ⟨_, List.getElem?_eq_getElem (by omega)⟩
        obtain ⟨H2, hn2, hc2, hC2⟩ := H1.out.1.s
        obtain ⟨bh, hH, _, _, _, s0, s1, _⟩ := spot_at hC2.old hs
        subst hH
        have hsn : s.1 < e.n := HC.out.2.2.1 s (List.mem_of_getElem? hs)
        obtain ⟨ws, hws⟩ : ∃ ws, e.W[s.1]? = some ws := ⟨_, List.getElem?_eq_getElem (by have := hC2.ways.1; omega)⟩
        have hk1 : (0 : Int) ≤ (k : Int) := by omega
        have hk2 : (k : Int) < (hn : Int) := by omega
        have hbX : Below wr.heap.size wr (wr.alloc (.cells #[.int .i64 (s.1 : Int), .int .i64 (s.2 : Int)] 155)) := (Below.refl _ _).alloc (Nat.le_refl _) _
        have hMX := H1.out.1.below hbX
        have hTX : Tch B g mb wr (wr.alloc (.cells #[.int .i64 (s.1 : Int), .int .i64 (s.2 : Int)] 155)) := Tch.of_below hbX (by have := hC2.lt; have := hC2.hB; omega) hC2.lt.1
        have hbox := heap_alloc_new wr (.cells #[.int .i64 (s.1 : Int), .int .i64 (s.2 : Int)] 155)
        have hnow : ¬ Owned g (wr.alloc (.cells #[.int .i64 (s.1 : Int), .int .i64 (s.2 : Int)] 155)) wr.heap.size := fun ho => by
          rcases ((hC2.below hbX).owned _).1 ho with e1 | e1
          · have := (row_lt hC2.row e1).2; omega
          · have := (row_lt hC2.old e1).2; omega
        have hng : wr.heap.size ≠ g ∧ wr.heap.size ≠ mb := ⟨by have := hC2.lt; omega, by have := hC2.lt; omega⟩
        have HH := Lib.hid (And.intro hs (And.intro hws (And.intro hsn hhl)))
        have HX := Lib.hid (And.intro hMX (H1.out.2.1.trans hTX))
        clear hC2 hs hws hbX hMX hTX hhl
        go_wp2_with fail
        generalize wr.alloc (.cells #[.int .i64 (s.1 : Int), .int .i64 (s.2 : Int)] 155) = X at hbox hnow HX ⊢
        generalize wr.heap.size = nb at hbox hnow hng ⊢
        have HN := Lib.hid (And.intro hbox (And.intro hnow hng))
        obtain ⟨H3, hn3, hc3, hC3⟩ := HX.out.1.s
        have c2 := hC3.cells.2.2.1
        obtain ⟨bw, ow, Aj, nj, cj, hWA, _, w0, hrow⟩ := hC3.ways.one HH.out.2.1
        rw [hWA] at c2
        have b0 := cell_of_row X nb 0 _ _ (0, 0) hbox
        have hx1 : (0 : Int) ≤ (s.1 : Int) := by omega
        have hx2 : (s.1 : Int) < (e.n : Int) := by omega
        have hnj : (nj : Int) ≤ 1000000 := by have := hrow.1.2; omega
        have HR := Lib.hid hrow
        clear hC3 hrow hWA hbox hnow hng
        go_quiet (fail)
        go_wp2_with fail
        go_loopw [70] (fun v70 wq => ∃ (j : Nat) (here2 : List (Nat × Nat)) (met2 : List Int), v70 = .int .i64 (j : Int) ∧ j ≤ nj ∧ Hid (WalkM full B g mb e wq tq here2 ⟨some ⟨bh, 0, none⟩, hn, hc, here⟩ met2 ∧ Tch B g mb X wq ∧ MetIn tq met met2 ∧ (full → Steps (WE e.p e.W e.T.size tq) (meets e.p e.W r (here.take k) ++ ((ws.take j).filter (takes e.p r)).map fun w => (w.2, s.2)) here2))) (fun v70 _ => nj - (intOf v70).toNat)
        case atStart => exact ⟨0, here1, met1, rfl, Nat.zero_le _, Lib.hid ⟨HX.out.1.below (below_drewN (Below.refl _ _) _), (Tch.refl _ _ _ _).drewN _, H1.out.2.2.1, fun hf => by simpa using H1.out.2.2.2 hf⟩⟩
        case round =>
          obtain ⟨j, here2, met2, rfl, hj, H2⟩ := hrel
          by_cases hlj : j < nj
          · obtain ⟨y, hy⟩ : ∃ y, ws[j]? = some y := ⟨_, List.getElem?_eq_getElem (by have := HR.out.1.1; omega)⟩
            obtain ⟨H4, hn4, hc4, hC4⟩ := H2.out.1.s
            obtain ⟨ba, oa, hAj, _, y0, y1⟩ := (HR.out.below H2.out.2.1.1).one hy
            subst hAj
            have hyn := hC4.win.2 _ _ HH.out.2.1 y.1 y.2 (List.mem_of_getElem? hy)
            have hpl : e.p.length = e.n := by unfold WEnv.p; rw [List.length_map]; exact hC4.ins.1
            rw [hpl] at hyn
            obtain ⟨v, hv⟩ : ∃ v, e.l[y.1]? = some v := ⟨_, List.getElem?_eq_getElem (by have := hC4.ins.1; omega)⟩
            have hpv : e.p[y.1]? = some v.i := by unfold WEnv.p; rw [List.getElem?_map, hv]; rfl
            obtain ⟨bx, nw⟩ := H2.out.2.1.2 nb _ HN.out.1 HN.out.2.2.1 HN.out.2.2.2 HN.out.2.1
            have hbX : Below wr.heap.size wr (wr.alloc (.cells #[.int .i64 (y.1 : Int), .int .i64 (y.2 : Int)] 153)) := (Below.refl _ _).alloc (Nat.le_refl _) _
            have hMX := H2.out.1.below hbX
            have hTX : Tch B g mb wr (wr.alloc (.cells #[.int .i64 (y.1 : Int), .int .i64 (y.2 : Int)] 153)) := Tch.of_below hbX (by have := hC4.lt; have := hC4.hB; omega) hC4.lt.1
            have hbox2 := heap_alloc_new wr (.cells #[.int .i64 (y.1 : Int), .int .i64 (y.2 : Int)] 153)
            have hbx2 := hTX.2 nb _ bx HN.out.2.2.1 HN.out.2.2.2 nw
            have hj1 : (0 : Int) ≤ (j : Int) := by omega
            have hj2 : (j : Int) < (nj : Int) := by omega
            have HY := Lib.hid (And.intro hy (And.intro hyn (And.intro hv (And.intro hpv (And.intro hMX (hTX))))))
            clear hC4 hbX hy hv hpv hTX hpl hMX bx nw
            go_wp2_with fail
            generalize wr.alloc (.cells #[.int .i64 (y.1 : Int), .int .i64 (y.2 : Int)] 153) = X2 at hbox2 hbx2 HY ⊢
            generalize wr.heap.size = nb2 at hbox2 ⊢
            obtain ⟨H5, hn5, hc5, hC5⟩ := HY.out.2.2.2.2.1.s
            obtain ⟨bi, oi, hA, _, hbl, _, i0, i1, i2, i3⟩ := hC5.ins.one HY.out.2.2.1
            have e0 := hC5.cells.1
            rw [hA] at e0
            have b20 := cell_of_row X2 nb2 0 _ _ (0, 0) hbox2
            have hy1 : (0 : Int) ≤ (y.1 : Int) := by omega
            have hy2 : (y.1 : Int) < (e.n : Int) := by have := HY.out.2.1.1; omega
            have HB2 := Lib.hid (And.intro hbox2 hbx2)
            have al : ∀ {a : Addr} {u : Value}, X2.cell? a = some u → ∀ o, (X2.alloc o).cell? a = some u := fun h o => Lib.cell?_alloc_some o h
            have e0' := al e0
            have b20' := al b20
            have i0' := al i0
            have i1' := al i1
            have i2' := al i2
            have i3' := al i3
            clear hC5 hA hbox2 hbx2 y0 y1 al
            go_region
            have hb3 : Below X2.heap.size X2 (X2.alloc (.cells #[.int .i64 v.i.op, .slice v.A v.n v.c, .int .i64 v.i.x, .int .i64 v.i.y] 89)).drew := ((Below.refl _ _).alloc (Nat.le_refl _) _).drew
            have hbox3 : (X2.alloc (.cells #[.int .i64 v.i.op, .slice v.A v.n v.c, .int .i64 v.i.x, .int .i64 v.i.y] 89)).drew.heap[X2.heap.size]? = _ := hp_drew (heap_alloc_new X2 _)
            have hM3 := HY.out.2.2.2.2.1.below hb3
            have hg2 : g < X2.heap.size ∧ B ≤ X2.heap.size := by obtain ⟨_, _, _, hq⟩ := HY.out.2.2.2.2.1.s; have := hq.lt; have := hq.hB; omega
            have hT3 : Tch B g mb X2 (X2.alloc (.cells #[.int .i64 v.i.op, .slice v.A v.n v.c, .int .i64 v.i.x, .int .i64 v.i.y] 89)).drew := Tch.of_below hb3 hg2.2 hg2.1
            have hbox2 := (hb3.block nb2 (Array.getElem?_eq_some_iff.1 HB2.out.1).1).trans HB2.out.1
            have hbox1 := (hb3.block nb (Array.getElem?_eq_some_iff.1 HB2.out.2.1).1).trans HB2.out.2.1
            clear e0 e0' b20 b20' i0 i0' i1 i1' i2 i2' i3 i3' hbl hg2 hb3
            generalize (X2.alloc (.cells #[.int .i64 v.i.op, .slice v.A v.n v.c, .int .i64 v.i.x, .int .i64 v.i.y] 89)).drew = X3 at hbox3 hM3 hT3 hbox2 hbox1 ⊢
            generalize X2.heap.size = nb3 at hbox3 ⊢
            have n0 := cell_of_row X3 nb3 0 _ _ (0, 0) hbox3
            have n1 := cell_of_row X3 nb3 1 _ _ (0, 0) hbox3
            have hl2 := (Array.getElem?_eq_some_iff.1 hbox2).1
            have hl1 := (Array.getElem?_eq_some_iff.1 hbox1).1
            have m2 : ∀ w', Below X3.heap.size X3 w' → w'.cell? ⟨nb2, 1, none⟩ = some (.int .i64 (y.2 : Int)) := fun w' hb => (hb.cell (p := ⟨nb2, 1, none⟩) hl2).trans (cell_of_row X3 nb2 1 _ _ (0, 0) hbox2)
            have m1 : ∀ w', Below X3.heap.size X3 w' → w'.cell? ⟨nb, 1, none⟩ = some (.int .i64 (s.2 : Int)) := fun w' hb => (hb.cell (p := ⟨nb, 1, none⟩) hl1).trans (cell_of_row X3 nb 1 _ _ (0, 0) hbox1)
            have htk : ws.take (j + 1) = ws.take j ++ [y] := by rw [List.take_add_one, HY.out.1]; rfl
            have htv : takes e.p r y = (decide (v.i.op = 1) && hasL v.i.set r) := by unfold takes; rw [HY.out.2.2.2.1]
            have h3T : Tch B g mb X X3 := H2.out.2.1.trans (HY.out.2.2.2.2.2.trans hT3)
            have HM := Lib.hid (And.intro m2 (And.intro m1 (And.intro hM3 (And.intro h3T (And.intro htk htv)))))
            obtain ⟨H6, hn6, hc6, hC6⟩ := hM3.s
            have hset := hC6.ins.2.2 v (List.mem_of_getElem? HY.out.2.2.1)
            have HHas := Lib.hid (shas_any v.i.set v.A v.n v.c r X3 hset.1.1 hset.2)
            have hgX : g < X3.heap.size ∧ B ≤ X3.heap.size := by have := hC6.lt; have := hC6.hB; omega
            have HGX := Lib.hid hgX
            clear hC6 hset m2 m1 hM3 h3T htk htv hbox3 hT3 hbox2 hbox1 hl2 hl1 hgX
            obtain ⟨ob, hob⟩ : ∃ ob, ob = hasL v.i.set r := ⟨_, rfl⟩
            rw [← hob] at HHas HM
            clear hob
            by_cases hop : v.i.op = 1
            · rw [hop] at n0
              have HM2 : Hid (takes e.p r y = ob) := Lib.hid (by rw [HM.out.2.2.2.2.2, hop]; cases ob <;> rfl)
              clear hop
              cases ob with
              | true =>
                go_wp2_with (first
                  | (go_at_call 118; (with_reducible refine HHas.out.mono ?_); rintro en w7 ⟨rfl, hb7⟩; have q2 := HM.out.1 w7 hb7; have q1 := HM.out.2.1 w7 hb7; have HMt := Lib.hid (meet_any (HM.out.2.2.1.below hb7) y.2 s.2 HY.out.2.1.2); have HB7 := Lib.hid hb7; clear hb7)
                  | (go_at_call 86; (with_reducible refine HMt.out.mono ?_); rintro en w8 ⟨rfl, here3, met3, hM8, hT8, hI8, hS8⟩; have H8 := Lib.hid (And.intro hM8 (And.intro hT8 (And.intro hI8 hS8))); clear hM8 hT8 hI8 hS8))
                refine ⟨⟨j + 1, here3, met3, rfl, hlj, Lib.hid ⟨H8.out.1, (HM.out.2.2.2.1.trans (Tch.of_below HB7.out HGX.out.2 HGX.out.1)).trans H8.out.2.1, H2.out.2.2.1.trans H8.out.2.2.1, fun hf => ?_⟩⟩, by simp [intOf]; omega⟩
                rw [HM.out.2.2.2.2.1, List.filter_append, List.map_append, ← List.append_assoc]
                have hf1 : List.filter (takes e.p r) [y] = [y] := by simp [HM2.out]
                rw [hf1]
                exact .snoc (H2.out.2.2.2 hf) (H8.out.2.2.2 hf)
              | false =>
                go_wp2_with (go_at_call 118; (with_reducible refine HHas.out.mono ?_); rintro en w7 ⟨rfl, hb7⟩; have HB7 := Lib.hid hb7; clear hb7)
                refine ⟨⟨j + 1, here2, met2, rfl, hlj, Lib.hid ⟨HM.out.2.2.1.below HB7.out, HM.out.2.2.2.1.trans (Tch.of_below HB7.out HGX.out.2 HGX.out.1), H2.out.2.2.1, fun hf => ?_⟩⟩, by simp [intOf]; omega⟩
                rw [HM.out.2.2.2.2.1, List.filter_append]
                have hf1 : List.filter (takes e.p r) [y] = [] := by simp [HM2.out]
                rw [hf1, List.append_nil]
                exact H2.out.2.2.2 hf
            · have hop2 : (v.i.op == 1) = false := by simp [hop]
              have HM2 : Hid (takes e.p r y = false) := Lib.hid (by rw [HM.out.2.2.2.2.2, decide_eq_false hop]; rfl)
              clear hop
              go_wp2
              refine ⟨⟨j + 1, here2, met2, rfl, hlj, Lib.hid ⟨HM.out.2.2.1, HM.out.2.2.2.1, H2.out.2.2.1, fun hf => ?_⟩⟩, by simp [intOf]; omega⟩
              rw [HM.out.2.2.2.2.1, List.filter_append]
              have hf1 : List.filter (takes e.p r) [y] = [] := by simp [HM2.out]
              rw [hf1, List.append_nil]
              exact H2.out.2.2.2 hf
          · obtain rfl : j = nj := by omega
            go_wp2
            refine ⟨⟨k + 1, here2, met2, rfl, hlt, Lib.hid ⟨H2.out.1, HX.out.2.trans H2.out.2.1, H2.out.2.2.1, fun hf => ?_⟩⟩, by simp [intOf]; omega⟩
            have h4 := H2.out.2.2.2 hf
            rw [List.take_of_length_le (l := ws) (by rw [HR.out.1.1]; exact Nat.le_refl _)] at h4
            have htk : here.take (k + 1) = here.take k ++ [s] := by rw [List.take_add_one, HH.out.1]; rfl
            rw [htk, meets_snoc, List.getD, HH.out.2.1]
            simpa using h4
      · obtain rfl : k = hn := by omega
        have HH := Lib.hid (show here.length = k from own_len HC.out.1.row)
        go_wp2
        go_end0
        refine ⟨rfl, here1, _, met1, H1.out.1, H1.out.2.1, H1.out.2.2.1, fun hf => ?_⟩
        have h4 := H1.out.2.2.2 hf
        rwa [List.take_of_length_le (by rw [HH.out]; exact Nat.le_refl _)] at h4
end Go.Proofs.YtaapbmdojkjphaaGreat
namespace Go.Proofs.YtaapbmdojkjphaaGreat
open Go Go.RowKit
set_option linter.unusedVariables false
set_option maxRecDepth 20000
def FirstOf (P : Nat × Nat → Bool) (xs : List (Nat × Nat)) (i : Int) : Prop :=
  (i = -1 ∧ ∀ x ∈ xs, P x = false) ∨ ∃ (k : Nat) (x : Nat × Nat), i = (k : Int) ∧ xs[k]? = some x ∧ P x = true ∧ ∀ (j : Nat) (y : Nat × Nat), j < k → xs[j]? = some y → P y = false
theorem isFirst_any (i : Nat) (w : World) (hi : (i : Int) ≤ 100000) : Calls Tryz.prog 96 #[.int .i64 (i : Int)] w fun en w' => en = .returned (.bool (decide (i = 0))) ∧ w = w' := by
  go_enter Tryz.func96, Tryz.ntmps96
  go_wp2
  go_ret
  refine ⟨?_, rfl⟩
  by_cases h : i = 0
  · subst h; rfl
  · have : ((i : Int) == 0) = false := by simp; omega
    simp [h]
theorem lookM_any {B g mb : Nat} {e : WEnv} {W : World} {at_ : Nat} {here : List (Nat × Nat)} {last : SRow} {met : List Int} (h : WalkS B g mb e W at_ here last met) {i f : Nat} {v : IV} (hv : e.l[i]? = some v) (bx : Nat) (hb : W.heap[bx]? = some (.cells #[.func (.func 88) #[.pointer (some ⟨g, 0, none⟩)] #[]] 72 (0, 0))) :
    Calls Tryz.prog 115 #[.agg #[.int .i64 (i : Int), .int .i64 (f : Int)], .pointer (some ⟨bx, 0, none⟩)] W fun en w' => en = .returned (.bool (decide (v.i.op = 0))) ∧ Below W.heap.size W w' := by
  have hbl := (Array.getElem?_eq_some_iff.1 hb).1
  have hB : Below W.heap.size W (W.alloc (.cells #[.int .i64 (i : Int), .int .i64 (f : Int)] 155)) := (Below.refl _ _).alloc (Nat.le_refl _) _
  have c0 : (W.alloc (.cells #[.int .i64 (i : Int), .int .i64 (f : Int)] 155)).cell? ⟨bx, 0, none⟩ = _ := cell_of_row _ bx 0 _ _ (0, 0) ((hB.block bx hbl).trans hb)
  have HM := Lib.hid (isMatch_any (h.below hB) hv)
  have HB := Lib.hid hB
  clear h hb hB
  obtain ⟨ob, hob⟩ : ∃ ob, ob = decide (v.i.op = 0) := ⟨_, rfl⟩
  rw [← hob] at HM ⊢
  clear hob
  go_enter Tryz.func115, Tryz.ntmps115
  go_wp2_with (go_at_call 88; (with_reducible refine HM.out.mono ?_); rintro en w7 ⟨rfl, rfl⟩)
  go_ret
  exact ⟨rfl, HB.out⟩
theorem lookF_any {W : World} {i f : Nat} (hi : (i : Int) ≤ 100000) (bx : Nat) (hb : W.heap[bx]? = some (.cells #[.func (.func 96) #[] #[]] 72 (0, 0))) :
    Calls Tryz.prog 115 #[.agg #[.int .i64 (i : Int), .int .i64 (f : Int)], .pointer (some ⟨bx, 0, none⟩)] W fun en w' => en = .returned (.bool (decide (i = 0))) ∧ Below W.heap.size W w' := by
  have hbl := (Array.getElem?_eq_some_iff.1 hb).1
  have hB : Below W.heap.size W (W.alloc (.cells #[.int .i64 (i : Int), .int .i64 (f : Int)] 155)) := (Below.refl _ _).alloc (Nat.le_refl _) _
  have c0 : (W.alloc (.cells #[.int .i64 (i : Int), .int .i64 (f : Int)] 155)).cell? ⟨bx, 0, none⟩ = _ := cell_of_row _ bx 0 _ _ (0, 0) ((hB.block bx hbl).trans hb)
  have HM := Lib.hid fun w => isFirst_any i w hi
  have HB := Lib.hid hB
  clear hb hB
  obtain ⟨ob, hob⟩ : ∃ ob, ob = decide (i = 0) := ⟨_, rfl⟩
  rw [← hob] at HM ⊢
  clear hob hi
  go_enter Tryz.func115, Tryz.ntmps115
  go_wp2_with (go_at_call 96; (with_reducible refine (HM.out _).mono ?_); rintro en w7 ⟨rfl, rfl⟩)
  go_ret
  exact ⟨rfl, HB.out⟩
theorem lookL_any {W : World} {i f far : Nat} (bx : Nat) (hb : W.heap[bx]? = some (.cells #[.int .i64 (far : Int)] 3 (0, 0))) :
    Calls Tryz.prog 117 #[.agg #[.int .i64 (i : Int), .int .i64 (f : Int)], .pointer (some ⟨bx, 0, none⟩)] W fun en w' => en = .returned (.bool (decide (far < f))) ∧ Below W.heap.size W w' := by
  have hbl := (Array.getElem?_eq_some_iff.1 hb).1
  have hB : Below W.heap.size W (W.alloc (.cells #[.int .i64 (i : Int), .int .i64 (f : Int)] 155)) := (Below.refl _ _).alloc (Nat.le_refl _) _
  have c0 : (W.alloc (.cells #[.int .i64 (i : Int), .int .i64 (f : Int)] 155)).cell? ⟨bx, 0, none⟩ = _ := cell_of_row _ bx 0 _ _ (0, 0) ((hB.block bx hbl).trans hb)
  have HB := Lib.hid hB
  clear hb hB
  go_enter Tryz.func117, Tryz.ntmps117
  by_cases h : far < f
  · have h1 : (f : Int) > (far : Int) := by omega
    rw [decide_eq_true h]
    go_wp2
    go_ret
    exact ⟨rfl, HB.out⟩
  · have h1 : ¬ (f : Int) > (far : Int) := by omega
    rw [decide_eq_false h]
    go_wp2
    go_ret
    exact ⟨rfl, HB.out⟩
set_option maxHeartbeats 2000000 in
theorem indexB_any {W : World} {B : Nat} {H : Option Addr} {hn hc : Nat} {xs : List (Nat × Nat)} (ho : W.ownsRow B 155 2 (.slice H hn hc) hn (cellsS xs)) (hsm : hn ≤ 100000) (bx : Nat) (P : Nat × Nat → Bool)
    (hP : ∀ w', Below W.heap.size W w' → ∀ x ∈ xs, Calls Tryz.prog 115 #[.agg #[.int .i64 (x.1 : Int), .int .i64 (x.2 : Int)], .pointer (some ⟨bx, 0, none⟩)] w' fun en w'' => en = .returned (.bool (P x)) ∧ Below w'.heap.size w' w'') :
    Calls Tryz.prog 114 #[.slice H hn hc, .func (.func 115) #[] #[.pointer (some ⟨bx, 0, none⟩)]] W fun en w' => ∃ i : Int, en = .returned (.int .i64 i) ∧ FirstOf P xs i ∧ Below W.heap.size W w' := by
  have HO := Lib.hid (And.intro ho (own_len ho))
  have HP := Lib.hid hP
  clear ho hP
  go_enter Tryz.func114, Tryz.ntmps114
  go_wp2
  go_loopw [8] (fun vi wr => ∃ (k : Nat), vi = .int .i64 (k : Int) ∧ k ≤ hn ∧ Hid ((∀ (j : Nat) (y : Nat × Nat), j < k → xs[j]? = some y → P y = false) ∧ Below W.heap.size W wr)) (fun vi _ => hn - (intOf vi).toNat)
  case atStart => exact ⟨0, rfl, Nat.zero_le _, Lib.hid ⟨fun j y h => absurd h (by omega), Below.refl _ _⟩⟩
  case round =>
    obtain ⟨k, rfl, hk, H1⟩ := hrel
    by_cases hl : k < hn
    · obtain ⟨x, hx⟩ : ∃ x, xs[k]? = some x := ⟨_, List.getElem?_eq_getElem (by have := HO.out.2; omega)⟩
      obtain ⟨b, rfl, _, _, hbl, d0, d1, _⟩ := spot_at HO.out.1 hx
      have c0 := (H1.out.2.cell (p := ⟨b, k * 2, none⟩) hbl).trans d0
      have c1 := (H1.out.2.cell (p := ⟨b, k * 2 + 1, none⟩) hbl).trans d1
      have HC := Lib.hid (HP.out wr H1.out.2 x (List.mem_of_getElem? hx))
      have HX := Lib.hid hx
      have hk1 : (0 : Int) ≤ (k : Int) := by omega
      have hk2 : (k : Int) < (hn : Int) := by omega
      clear d0 d1 hx hbl
      cases hpx : P x with
      | true =>
        rw [hpx] at HC
        have HPX := Lib.hid hpx
        clear hpx
        go_wp2_with (go_at_call 115; (with_reducible refine HC.out.mono ?_); rintro en w1 ⟨rfl, hb1⟩; have HB1 := Lib.hid (H1.out.2.trans (hb1.mono H1.out.2.size)); clear hb1)
        go_ret
        exact ⟨k, rfl, .inr ⟨k, x, rfl, HX.out, HPX.out, H1.out.1⟩, HB1.out⟩
      | false =>
        rw [hpx] at HC
        have HPX := Lib.hid hpx
        clear hpx
        go_wp2_with (go_at_call 115; (with_reducible refine HC.out.mono ?_); rintro en w1 ⟨rfl, hb1⟩; have HB1 := Lib.hid (H1.out.2.trans (hb1.mono H1.out.2.size)); clear hb1)
        refine ⟨⟨k + 1, rfl, hl, Lib.hid ⟨fun j y h1 h2 => ?_, HB1.out⟩⟩, by simp [intOf]; omega⟩
        rcases Nat.lt_or_ge j k with h3 | h3
        · exact H1.out.1 j y h3 h2
        · obtain rfl : j = k := by omega
          rw [HX.out] at h2
          injection h2 with h2
          rw [← h2]; exact HPX.out
    · obtain rfl : k = hn := by omega
      go_wp2
      go_ret
      refine ⟨-1, rfl, .inl ⟨rfl, fun x hx => ?_⟩, H1.out.2⟩
      obtain ⟨j, hj, rfl⟩ := List.getElem_of_mem hx
      exact H1.out.1 j _ (by have := HO.out.2; omega) (List.getElem?_eq_getElem hj)
set_option maxHeartbeats 2000000 in
theorem indexL_any {W : World} {B : Nat} {H : Option Addr} {hn hc : Nat} {xs : List (Nat × Nat)} (ho : W.ownsRow B 155 2 (.slice H hn hc) hn (cellsS xs)) (hsm : hn ≤ 100000) (bx : Nat) (P : Nat × Nat → Bool)
    (hP : ∀ w', Below W.heap.size W w' → ∀ x ∈ xs, Calls Tryz.prog 117 #[.agg #[.int .i64 (x.1 : Int), .int .i64 (x.2 : Int)], .pointer (some ⟨bx, 0, none⟩)] w' fun en w'' => en = .returned (.bool (P x)) ∧ Below w'.heap.size w' w'') :
    Calls Tryz.prog 114 #[.slice H hn hc, .func (.func 117) #[] #[.pointer (some ⟨bx, 0, none⟩)]] W fun en w' => ∃ i : Int, en = .returned (.int .i64 i) ∧ FirstOf P xs i ∧ Below W.heap.size W w' := by
  have HO := Lib.hid (And.intro ho (own_len ho))
  have HP := Lib.hid hP
  clear ho hP
  go_enter Tryz.func114, Tryz.ntmps114
  go_wp2
  go_loopw [8] (fun vi wr => ∃ (k : Nat), vi = .int .i64 (k : Int) ∧ k ≤ hn ∧ Hid ((∀ (j : Nat) (y : Nat × Nat), j < k → xs[j]? = some y → P y = false) ∧ Below W.heap.size W wr)) (fun vi _ => hn - (intOf vi).toNat)
  case atStart => exact ⟨0, rfl, Nat.zero_le _, Lib.hid ⟨fun j y h => absurd h (by omega), Below.refl _ _⟩⟩
  case round =>
    obtain ⟨k, rfl, hk, H1⟩ := hrel
    by_cases hl : k < hn
    · obtain ⟨x, hx⟩ : ∃ x, xs[k]? = some x := ⟨_, List.getElem?_eq_getElem (by have := HO.out.2; omega)⟩
      obtain ⟨b, rfl, _, _, hbl, d0, d1, _⟩ := spot_at HO.out.1 hx
      have c0 := (H1.out.2.cell (p := ⟨b, k * 2, none⟩) hbl).trans d0
      have c1 := (H1.out.2.cell (p := ⟨b, k * 2 + 1, none⟩) hbl).trans d1
      have HC := Lib.hid (HP.out wr H1.out.2 x (List.mem_of_getElem? hx))
      have HX := Lib.hid hx
      have hk1 : (0 : Int) ≤ (k : Int) := by omega
      have hk2 : (k : Int) < (hn : Int) := by omega
      clear d0 d1 hx hbl
      cases hpx : P x with
      | true =>
        rw [hpx] at HC
        have HPX := Lib.hid hpx
        clear hpx
        go_wp2_with (go_at_call 117; (with_reducible refine HC.out.mono ?_); rintro en w1 ⟨rfl, hb1⟩; have HB1 := Lib.hid (H1.out.2.trans (hb1.mono H1.out.2.size)); clear hb1)
        go_ret
        exact ⟨k, rfl, .inr ⟨k, x, rfl, HX.out, HPX.out, H1.out.1⟩, HB1.out⟩
      | false =>
        rw [hpx] at HC
        have HPX := Lib.hid hpx
        clear hpx
        go_wp2_with (go_at_call 117; (with_reducible refine HC.out.mono ?_); rintro en w1 ⟨rfl, hb1⟩; have HB1 := Lib.hid (H1.out.2.trans (hb1.mono H1.out.2.size)); clear hb1)
        refine ⟨⟨k + 1, rfl, hl, Lib.hid ⟨fun j y h1 h2 => ?_, HB1.out⟩⟩, by simp [intOf]; omega⟩
        rcases Nat.lt_or_ge j k with h3 | h3
        · exact H1.out.1 j y h3 h2
        · obtain rfl : j = k := by omega
          rw [HX.out] at h2
          injection h2 with h2
          rw [← h2]; exact HPX.out
    · obtain rfl : k = hn := by omega
      go_wp2
      go_ret
      refine ⟨-1, rfl, .inl ⟨rfl, fun x hx => ?_⟩, H1.out.2⟩
      obtain ⟨j, hj, rfl⟩ := List.getElem_of_mem hx
      exact H1.out.1 j _ (by have := HO.out.2; omega) (List.getElem?_eq_getElem hj)
end Go.Proofs.YtaapbmdojkjphaaGreat
namespace Go.Proofs.YtaapbmdojkjphaaGreat
open Go Go.RowKit
set_option linter.unusedVariables false
set_option maxRecDepth 20000
def BestOf (P : Nat × Nat → Bool) (here : List (Nat × Nat)) (f : Int) (ok : Bool) : Prop :=
  (ok = false ∧ f = 0 ∧ ∀ x ∈ here, P x = false) ∨ (ok = true ∧ ∃ A j b Z, f = ((b : Nat) : Int) ∧ here = A ++ (j, b) :: Z ∧ (∀ x ∈ A, P x = false) ∧ P (j, b) = true)
theorem bestOf_at {P : Nat × Nat → Bool} {xs : List (Nat × Nat)} {k : Nat} {x : Nat × Nat} (h1 : xs[k]? = some x) (h2 : P x = true) (h3 : ∀ (j : Nat) (y : Nat × Nat), j < k → xs[j]? = some y → P y = false) : BestOf P xs (x.2 : Int) true := by
  have hk := (List.getElem?_eq_some_iff.1 h1).1
  refine .inr ⟨rfl, xs.take k, x.1, x.2, xs.drop (k + 1), rfl, ?_, fun y hy => ?_, h2⟩
  · have hx : xs[k] = x := by rw [List.getElem?_eq_getElem hk] at h1; exact Option.some.inj h1
    have := (List.take_append_drop k xs).symm
    rw [List.drop_eq_getElem_cons hk, hx] at this
    exact this
  · obtain ⟨j, hj, rfl⟩ := List.getElem_of_mem hy
    rw [List.length_take] at hj
    exact h3 j _ (by omega) (by rw [List.getElem_take]; exact List.getElem?_eq_getElem (by omega))
def isEndB (l : List IV) (x : Nat × Nat) : Bool := match l[x.1]? with | some v => decide (v.i.op = 0) | none => false
set_option maxHeartbeats 4000000 in
theorem bestM_any {B g mb : Nat} {e : WEnv} {w : World} {at_ : Nat} {here : List (Nat × Nat)} {last : SRow} {met : List Int} (h : WalkS B g mb e w at_ here last met) (hin : ∀ x ∈ here, x.1 < e.n) (hnl : here.length ≤ 100000) :
    Calls Tryz.prog 87 #[.pointer (some ⟨g, 0, none⟩), .func (.func 88) #[.pointer (some ⟨g, 0, none⟩)] #[]] w fun en w' => ∃ (f : Int) (ok : Bool), en = .returned (.tuple #[.int .i64 f, .bool ok]) ∧ BestOf (isEndB e.l) here f ok ∧ Below w.heap.size w w' := by
  have hb0 : Below w.heap.size w (w.alloc (.cells #[.func (.func 88) #[.pointer (some ⟨g, 0, none⟩)] #[]] 72)) := (Below.refl _ _).alloc (Nat.le_refl _) _
  have hX := h.below hb0
  have hbox := heap_alloc_new w (.cells #[.func (.func 88) #[.pointer (some ⟨g, 0, none⟩)] #[]] 72)
  have hbl : w.heap.size < (w.alloc (.cells #[.func (.func 88) #[.pointer (some ⟨g, 0, none⟩)] #[]] 72)).heap.size := by simp
  obtain ⟨H, hn, hc, hC⟩ := hX
  have c4 := hC.cells.2.2.2.2.1
  have hgl := hC.lt.1
  have hlen := own_len hC.row
  have HI := Lib.hid (indexB_any hC.row (by omega) w.heap.size (isEndB e.l) fun w' hb x hx => by
    obtain ⟨v, hv⟩ : ∃ v, e.l[x.1]? = some v := ⟨_, List.getElem?_eq_getElem (by have := hC.ins.1; have := hin x hx; omega)⟩
    refine (lookM_any (h := ⟨H, hn, hc, hC.below hb⟩) hv w.heap.size ((hb.block _ hbl).trans hbox)).mono fun en w'' ⟨h1, h2⟩ => ⟨?_, h2⟩
    rw [h1]; simp only [isEndB, hv])
  have HC := Lib.hid (And.intro hC (And.intro hb0 hlen))
  clear hC hb0 hbox h hlen
  go_enter Tryz.func87, Tryz.ntmps87
  go_wp2_with fail
  (with_reducible refine HI.out.mono ?_)
  rintro en w2 ⟨i, rfl, hfo, hb2⟩
  have e4 := (hb2.cell (p := ⟨g, 4, none⟩) hgl).trans c4
  have HB2 := Lib.hid hb2
  rcases hfo with ⟨rfl, hno⟩ | ⟨k, x, rfl, hx, hpx, hlt⟩
  · have HN := Lib.hid hno
    clear hno hb2
    go_wp2
    go_ret2
    exact ⟨0, false, rfl, .inl ⟨rfl, rfl, HN.out⟩, HC.out.2.1.trans (HB2.out.mono HC.out.2.1.size)⟩
  · obtain ⟨b, rfl, hkn, _, hbb, _, d1, _⟩ := spot_at HC.out.1.row hx
    have d1' := (hb2.cell (p := ⟨b, k * 2 + 1, none⟩) hbb).trans d1
    have hk1 : (0 : Int) ≤ (k : Int) := by omega
    have hk2 : (k : Int) < (hn : Int) := by omega
    have HN := Lib.hid (And.intro hx (And.intro hpx hlt))
    clear hx hpx hlt hb2 d1 hbb
    go_wp2
    go_ret2
    exact ⟨_, true, rfl, bestOf_at HN.out.1 HN.out.2.1 HN.out.2.2, HC.out.2.1.trans (HB2.out.mono HC.out.2.1.size)⟩
set_option maxHeartbeats 4000000 in
theorem bestF_any {B g mb : Nat} {e : WEnv} {w : World} {at_ : Nat} {here : List (Nat × Nat)} {last : SRow} {met : List Int} (h : WalkS B g mb e w at_ here last met) (hin : ∀ x ∈ here, x.1 < e.n) (hnl : here.length ≤ 100000) :
    Calls Tryz.prog 87 #[.pointer (some ⟨g, 0, none⟩), .func (.func 96) #[] #[]] w fun en w' => ∃ (f : Int) (ok : Bool), en = .returned (.tuple #[.int .i64 f, .bool ok]) ∧ BestOf (fun x => decide (x.1 = 0)) here f ok ∧ Below w.heap.size w w' := by
  have hb0 : Below w.heap.size w (w.alloc (.cells #[.func (.func 96) #[] #[]] 72)) := (Below.refl _ _).alloc (Nat.le_refl _) _
  have hX := h.below hb0
  have hbox := heap_alloc_new w (.cells #[.func (.func 96) #[] #[]] 72)
  have hbl : w.heap.size < (w.alloc (.cells #[.func (.func 96) #[] #[]] 72)).heap.size := by simp
  obtain ⟨H, hn, hc, hC⟩ := hX
  have c4 := hC.cells.2.2.2.2.1
  have hgl := hC.lt.1
  have hlen := own_len hC.row
  have HI := Lib.hid (indexB_any hC.row (by omega) w.heap.size (fun x => decide (x.1 = 0)) fun w' hb x hx => by
    exact lookF_any (i := x.1) (f := x.2) (by have := hin x hx; have := hC.small.1; omega) w.heap.size ((hb.block _ hbl).trans hbox))
  have HC := Lib.hid (And.intro hC (And.intro hb0 hlen))
  clear hC hb0 hbox h hlen
  go_enter Tryz.func87, Tryz.ntmps87
  go_wp2_with fail
  (with_reducible refine HI.out.mono ?_)
  rintro en w2 ⟨i, rfl, hfo, hb2⟩
  have e4 := (hb2.cell (p := ⟨g, 4, none⟩) hgl).trans c4
  have HB2 := Lib.hid hb2
  rcases hfo with ⟨rfl, hno⟩ | ⟨k, x, rfl, hx, hpx, hlt⟩
  · have HN := Lib.hid hno
    clear hno hb2
    go_wp2
    go_ret2
    exact ⟨0, false, rfl, .inl ⟨rfl, rfl, HN.out⟩, HC.out.2.1.trans (HB2.out.mono HC.out.2.1.size)⟩
  · obtain ⟨b, rfl, hkn, _, hbb, _, d1, _⟩ := spot_at HC.out.1.row hx
    have d1' := (hb2.cell (p := ⟨b, k * 2 + 1, none⟩) hbb).trans d1
    have hk1 : (0 : Int) ≤ (k : Int) := by omega
    have hk2 : (k : Int) < (hn : Int) := by omega
    have HN := Lib.hid (And.intro hx (And.intro hpx hlt))
    clear hx hpx hlt hb2 d1 hbb
    go_wp2
    go_ret2
    exact ⟨_, true, rfl, bestOf_at HN.out.1 HN.out.2.1 HN.out.2.2, HC.out.2.1.trans (HB2.out.mono HC.out.2.1.size)⟩
end Go.Proofs.YtaapbmdojkjphaaGreat
namespace Go.Proofs.YtaapbmdojkjphaaGreat
open Go Go.RowKit
set_option linter.unusedVariables false
def endI (T : List Int) : Option Nat → Int
  | none => -1
  | some e => (atF T e : Int)
def EReal (p : List InstL) (T : List Int) (k at_ : Nat) (here : List (Nat × Nat)) (met xs : List Int) : Prop :=
  ((k = 0 ∧ here = [] ∧ at_ = T.length ∧ ∀ x ∈ met, x = -1) ∨ (0 < k ∧ k ≤ (rsT T).length + 1 ∧ at_ = atF T ((rsT T).length + 1 - k) ∧ (∃ h, here = h.map (phi T) ∧ Bwd p (rsT T) ((rsT T).length + 1 - k) h) ∧ ∀ x ∈ met, x = -1 ∨ (at_ : Int) ≤ x)) ∧
  ∀ a : Nat, a ≤ T.length → (∃ j o, (rsT T).length + 1 - k ≤ j ∧ atF T j = a ∧ j ≤ (rsT T).length ∧ Long p (rsT T) j o ∧ xs[a]? = some (endI T o)) ∨ ((¬ ∃ j, (rsT T).length + 1 - k ≤ j ∧ j ≤ (rsT T).length ∧ atF T j = a) ∧ xs[a]? = some (-1))
theorem EReal.begin {p : List InstL} {T : List Int} {n : Nat} : EReal p T 0 T.length [] (List.replicate n (-1)) (List.replicate (T.length + 1) (-1)) := by
  refine ⟨.inl ⟨rfl, rfl, rfl, fun x hx => List.eq_of_mem_replicate hx⟩, fun a ha => .inr ⟨fun ⟨j, h1, h2, _⟩ => by omega, ?_⟩⟩
  rw [List.getElem?_replicate, if_pos (by omega)]
theorem EReal.fresh {p : List InstL} {T : List Int} {k at_ tq : Nat} {here : List (Nat × Nat)} {met xs : List Int} (h : EReal p T k at_ here met xs) (hk : k ≤ (rsT T).length) (htq : tq = atF T ((rsT T).length - k)) : ∀ x ∈ met, x ≠ (tq : Int) := by
  rcases h.1 with ⟨rfl, _, h1, h2⟩ | ⟨h0, _, h1, _, h2⟩
  · intro x hx; rw [h2 x hx]; omega
  · intro x hx
    have := atF_lt (T := T) (i := (rsT T).length - k) (j := (rsT T).length + 1 - k) (by omega) (by omega)
    rcases h2 x hx with h3 | h3 <;> omega
theorem EReal.next {p : List InstL} {W : List (List (Nat × Nat))} {T : List Int} {k at_ tq : Nat} {here here' : List (Nat × Nat)} {met met' xs : List Int} {ms : List Nat} {r : Int} (h : EReal p T k at_ here met xs) (hW : BackW p W) (hp : Within p) (hk : k ≤ (rsT T).length) (htq : tq = atF T ((rsT T).length - k))
    (hr : r = (getI ((T.drop (min at_ tq)).take (max at_ tq - min at_ tq))).1) (hms : ∀ i, i ∈ ms ↔ IsEnd p i) (hs : Steps (WE p W T.length tq) (meets p W r here ++ ms.map fun i => (i, tq)) here')
    (hm : ∀ x ∈ met', x ∈ met ∨ x = (tq : Int)) (hxl : xs.length = T.length + 1) {f : Int} {ok : Bool} (hb : BestOf (fun x => decide (x.1 = 0)) here' f ok) :
    EReal p T (k + 1) tq here' met' (if ok = true then xs.set tq f else xs) := by
  obtain ⟨j, hj⟩ : ∃ j, j = (rsT T).length - k := ⟨_, rfl⟩
  have hjk : (rsT T).length + 1 - (k + 1) = j := by omega
  have hjl : j ≤ (rsT T).length := by omega
  rw [← hj] at htq
  have hem : (ms.map fun i => (i, tq)) = (ms.map fun i => (i, j)).map (phi T) := by rw [List.map_map, htq]; rfl
  rw [htq, we_at hjl] at hs
  rw [← htq] at hs
  have key : ∃ h', here' = h'.map (phi T) ∧ Bwd p (rsT T) j h' := by
    rcases h.1 with ⟨h0, h1, h2, h3⟩ | ⟨h0, h00, h1, ⟨h2, rfl, h3⟩, h4⟩
    · rw [h1, show meets p W r [] = [] from rfl, List.nil_append, hem] at hs
      obtain ⟨h', rfl, hs'⟩ := hs.unmap _ rfl
      exact ⟨h', rfl, Bwd.step (here := []) hW hp hjl (todo := []) (.inl ⟨by omega, rfl⟩) (ends := ms.map fun i => (i, j)) (fun i f => by rw [List.mem_map]; exact ⟨fun ⟨a, ha, e⟩ => by injection e with e1 e2; subst e1; exact ⟨e2.symm, (hms _).1 ha⟩, fun ⟨e1, e2⟩ => ⟨i, (hms i).2 e2, by rw [e1]⟩⟩) hs'⟩
    · have hj1 : (rsT T).length + 1 - k = j + 1 := by omega
      rw [hj1] at h1 h3
      have hnx := atF_next (T := T) (k := j) (by omega)
      have hp1 := szT_pos hnx.1
      have he1 := szT_eq hnx.1
      have hmin : min at_ tq = atF T j := by omega
      have hmax : max at_ tq - min at_ tq = szT T (atF T j) := by omega
      have hrr : r = cpT T (atF T j) := by
        rw [hr, hmax, hmin, getI_take (by omega) (.inr (.inr he1.symm)) (by omega)]
        rfl
      rw [meets_map, hem, ← List.map_append] at hs
      obtain ⟨h', rfl, hs'⟩ := hs.unmap _ rfl
      refine ⟨h', rfl, Bwd.step (here := h2) hW hp hjl (.inr ⟨r, by rw [hrr]; exact hnx.2.2, rfl, h3⟩) (ends := ms.map fun i => (i, j)) (fun i f => by rw [List.mem_map]; exact ⟨fun ⟨a, ha, e⟩ => by injection e with e1 e2; subst e1; exact ⟨e2.symm, (hms _).1 ha⟩, fun ⟨e1, e2⟩ => ⟨i, (hms i).2 e2, by rw [e1]⟩⟩) hs'⟩
  obtain ⟨h', rfl, hB⟩ := key
  have hat : tq ≤ T.length := by rw [htq]; exact atF_max hjl
  refine ⟨.inr ⟨Nat.succ_pos _, by omega, by rw [hjk]; exact htq, ⟨h', rfl, by rw [hjk]; exact hB⟩, fun x hx => ?_⟩, fun a ha => ?_⟩
  · rcases hm x hx with h1 | h1
    · rcases h.1 with ⟨_, _, _, h3⟩ | ⟨h0, h00, h2, _, h4⟩
      · exact .inl (h3 x h1)
      · have hlt := atF_lt (T := T) (i := j) (j := (rsT T).length + 1 - k) (by omega) (by omega)
        rcases h4 x h1 with h5 | h5
        · exact .inl h5
        · exact .inr (by omega)
    · exact .inr (by omega)
  · rw [hjk]
    by_cases hat2 : a = tq
    · left
      subst hat2
      rcases hb with ⟨rfl, rfl, hno⟩ | ⟨rfl, A, i, b, Z, rfl, hA, _, hi⟩
      · refine ⟨j, none, Nat.le_refl _, htq.symm, hjl, hB.none_ fun f hf => ?_, ?_⟩
        · have := hno _ (List.mem_map.2 ⟨_, hf, rfl⟩)
          simp [phi] at this
        · rcases h.2 a ha with ⟨j0, o, h1, h2, h3, _⟩ | ⟨_, h2⟩
          · exfalso
            have := atF_lt (T := T) (i := j) (j := j0) h3 (by omega)
            omega
          · rw [if_neg (by simp)]; exact h2
      · have hi0 : i = 0 := by simpa using hi
        subst hi0
        have hmem : (0, b) ∈ h'.map (phi T) := by rw [hA]; simp
        obtain ⟨⟨i0, f0⟩, hf, e⟩ := List.mem_map.1 hmem
        unfold phi at e
        injection e with e1 e2
        have e1 : i0 = 0 := e1
        subst e1
        refine ⟨j, some f0, Nat.le_refl _, htq.symm, hjl, hB.some_ hf, ?_⟩
        rw [if_pos rfl, List.getElem?_set_self (by omega)]
        rw [← e2]; rfl
    · have hx : (if ok = true then xs.set tq f else xs)[a]? = xs[a]? := by
        split
        · rw [List.getElem?_set_ne (by omega)]
        · rfl
      rw [hx]
      rcases h.2 a ha with ⟨j0, o, h1, h2, h3, h4, h5⟩ | ⟨h1, h2⟩
      · exact .inl ⟨j0, o, by omega, h2, h3, h4, h5⟩
      · refine .inr ⟨fun ⟨j0, h3, h4, h5⟩ => ?_, h2⟩
        by_cases hje : j0 = j
        · subst hje; omega
        · exact h1 ⟨j0, by omega, h4, h5⟩
theorem EReal.over {p : List InstL} {T : List Int} {at_ : Nat} {here : List (Nat × Nat)} {met xs : List Int} (h : EReal p T ((rsT T).length + 1) at_ here met xs) :
    ∀ a : Nat, a ≤ T.length → (∃ j o, atF T j = a ∧ j ≤ (rsT T).length ∧ Long p (rsT T) j o ∧ xs[a]? = some (endI T o)) ∨ ((¬ ∃ j, j ≤ (rsT T).length ∧ atF T j = a) ∧ xs[a]? = some (-1)) := by
  intro a ha
  rcases h.2 a ha with ⟨j, o, _, h2, h3, h4, h5⟩ | ⟨h1, h2⟩
  · exact .inl ⟨j, o, h2, h3, h4, h5⟩
  · exact .inr ⟨fun ⟨j, h3, h4⟩ => h1 ⟨j, by omega, h3, h4⟩, h2⟩
end Go.Proofs.YtaapbmdojkjphaaGreat
