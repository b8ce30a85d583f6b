/- CutsEnds: the walk. -/
import Derived.Test.YtjiagpbmaepamaaAwake4
import Derived.Test.YtjiagpbmaepamaaEnds
import Derived.Test.YtjiagpbmaepamaaGrow
import Derived.BigQuiet
namespace Go.Proofs.Ytjiagpbmaepamaa
open Go Go.RowKit
set_option linter.unusedVariables false

/-- A list of slices of octets that came in, in my words. -/
theorem rowB_of_rows {W : World} {base : Nat} {a : Addr} {len cap : Nat} {A : Nat → Option Addr} {L C : Nat → Nat} {Z : Nat → List Int} (hl : len ≤ cap)
    (h : ∀ r, r < cap → W.cell? (a.add r) = some (.slice (A r) (L r) (C r)) ∧ L r ≤ C r ∧ C r ≤ maxLen ∧ (Z r).length = C r ∧ (∀ n ∈ Z r, (Lit.int .u8 n).wf = true) ∧ (A r = none → C r = 0) ∧
      ∀ a', A r = some a' → base ≤ a'.block ∧ ∀ c, c < C r → W.cell? (a'.add c) = some (.int .u8 ((Z r).getD c 0))) :
    ∃ ps, RowB W (some a) len ps ∧ ∀ p ∈ ps, p.length ≤ maxLen := by
  refine ⟨(List.range len).map fun r => (Z r).take (L r), ⟨by simp, fun hn => ?_⟩, fun p hp => ?_⟩
  · obtain ⟨b, off, spot⟩ := a
    have h0 := (h 0 (by omega)).1
    have hspot : spot = none := by simpa [Addr.add] using World.cell?_spot h0
    subst hspot
    refine ⟨b, off, rfl, ?_, fun j hj => ?_⟩
    · exact World.block_lt_of_cell? W (⟨b, off, none⟩ : Addr) (by simpa [Addr.add] using h0)
    · have hadd : (⟨b, off, none⟩ : Addr).add j = ⟨b, off + j, none⟩ := by unfold Addr.add; split <;> simp_all
      obtain ⟨h1, h2, h3, h4, _, h6, h7⟩ := h j (by omega)
      rw [hadd] at h1
      have hgd : ((List.range len).map fun r => (Z r).take (L r)).getD j [] = (Z j).take (L j) := by
        simp [List.getD, hj]
      have hlen : ((Z j).take (L j)).length = L j := by rw [List.length_take]; omega
      rw [hgd, hlen]
      refine ⟨A j, C j, h1, ⟨hlen, fun hp => ?_⟩, fun hA => ⟨by have := h6 hA; omega, h6 hA⟩⟩
      rcases hAj : A j with _ | ⟨b2, o2, s2⟩
      · have := h6 hAj; omega
      · have hc := (h7 _ hAj).2
        have hc0 := hc 0 (by omega)
        have hs2 : s2 = none := by simpa [Addr.add] using World.cell?_spot hc0
        subst hs2
        refine ⟨b2, o2, rfl, World.block_lt_of_cell? W (⟨b2, o2, none⟩ : Addr) (by simpa [Addr.add] using hc0), fun i hi => ?_⟩
        have hadd2 : (⟨b2, o2, none⟩ : Addr).add i = ⟨b2, o2 + i, none⟩ := by unfold Addr.add; split <;> simp_all
        have hci := hc i (by omega)
        rw [hadd2] at hci
        rw [hci]
        simp [List.getD, hi]
  · obtain ⟨r, hr, rfl⟩ := List.mem_map.1 hp
    obtain ⟨_, h2, h3, h4, _⟩ := h r (by have := List.mem_range.1 hr; omega)
    simp only [List.length_take]
    omega

theorem lawEnds_long (A : Option Addr) (n c : Nat) (w : World) (hl : 20 < n) (hm : n ≤ maxLen) :
    Calls Try.prog 4 #[.slice A n c] w fun e w' => e = .returned (.bool true) ∧ Below w.heap.size w w' := by
  unfold maxLen at hm
  have hd : decide ((20 : Int) < (n : Int)) = true := by simp; omega
  go_enter Try.func4, Try.ntmps4
  go_wp2_with fail
  refine (awake4_any _).mono ?_; rintro e w1 ⟨rfl, hbel⟩
  go_wp2_with fail
  refine (awake4_any _).mono ?_; rintro e w2 ⟨rfl, hbel2⟩
  go_wp2_with fail
  go_ret
  exact ⟨rfl, hbel.trans (Below.mono hbel2 hbel.size)⟩

set_option maxHeartbeats 4000000 in
theorem lawEnds_short (A : Option Addr) (n c : Nat) (ps : List (List Int)) (W : World) (hl : n ≤ 20) (hr : RowB W A n ps) (hp : ∀ p ∈ ps, p.length ≤ maxLen) :
    Calls Try.prog 4 #[.slice A n c] W fun e w' => e = .returned (.bool true) ∧ Below W.heap.size W w' := by
  have hd : decide ((20 : Int) < (n : Int)) = false := by simp; omega
  have hpl := hr.1
  have HR := Lib.hid hr; clear hr
  have HP := Lib.hid hp; clear hp
  have HPL := Lib.hid hpl; clear hpl
  go_enter Try.func4, Try.ntmps4
  go_wp2_with fail
  refine (awake4_any _).mono ?_; rintro e w1 ⟨rfl, hbel⟩
  have HE := Lib.hid (ends_any ps A n c w1 (HR.out.below hbel (Nat.le_refl _)) (by omega))
  go_wp2_with fail
  refine HE.out.mono ?_; rintro e w2 ⟨D, d, rfl, hri, hb2⟩
  have hW2 := hbel.trans (Below.mono hb2 hbel.size)
  have hrow2 := HR.out.below hW2 (Nat.le_refl _)
  have HRI := Lib.hid hri; clear hri
  have HROW := Lib.hid hrow2; clear hrow2
  clear hbel hb2 HE
  go_wp2_with fail
  go_loopw [3, 5] (fun va vi wr => ∃ (i N : Nat) (T : ByteArray), i ≤ n ∧ vi = .int .i64 (i : Int) ∧ va = .string T ∧ T.size = N ∧ N ≤ 100 * i ∧ Hid (N = (ps.take i).flatten.length) ∧ Hid (T = strOfNums (ps.take i).flatten) ∧ w2 = wr) (fun _ vi _ => n - (intOf vi).toNat)
  case atStart => exact ⟨0, 0, _, by omega, rfl, rfl, rfl, by omega, Lib.hid rfl, Lib.hid rfl, rfl⟩
  case round =>
    obtain ⟨i, N, T, hi, rfl, rfl, hTN, hN, HN, HT, rfl⟩ := hrel
    by_cases hlt : i < n
    · obtain ⟨b, o, rfl, _, hc⟩ := HROW.out.2 (by omega)
      obtain ⟨b', o', rfl, _, hc'⟩ := HRI.out.2 (by omega)
      obtain ⟨G, g, k1, r1, _⟩ := hc i hlt
      have k2 := hc' i hlt
      have hip : i < ps.length := by rw [HPL.out]; exact hlt
      have hmem : ps.getD i [] ∈ ps := by
        rw [show ps.getD i [] = ps[i] by simp [List.getD, List.getElem?_eq_getElem hip]]
        exact List.getElem_mem _
      have hL64 := HP.out _ hmem
      unfold maxLen at hL64
      by_cases hlong : 100 < (ps.getD i []).length
      · obtain ⟨L, hL⟩ : ∃ L, L = (ps.getD i []).length := ⟨_, rfl⟩
        rw [← hL] at k1 hL64 hlong
        have d1 : decide ((100 : Int) < (L : Int)) = true := by simp; omega
        clear hc hc' r1 k2 hmem hL
        go_wp2_with fail
        go_ret
        exact ⟨rfl, hW2⟩
      · have hft := flat_take ps i hip
        have he := endsL_get ps i hip 0
        have hfl : (ps.take (i + 1)).flatten.length = N + (ps.getD i []).length := by rw [hft, List.length_append, ← HN.out]
        have hsm := endL_small (ps.take (i + 1)) 0 (by omega)
        rw [hfl, Nat.zero_add] at hsm
        rw [show endL 0 (ps.take (i + 1)) = endL ((0 : Nat) : Int) (ps.take (i + 1)) from rfl, hsm] at he
        rw [he] at k2
        have hcv := strRow w2 G _ g _ r1
        have hsz := size_strOfNums (ps.getD i [])
        have happ : T ++ strOfNums (ps.getD i []) = strOfNums (ps.take (i + 1)).flatten := by rw [hft, HT.out, strOfNums_append]
        obtain ⟨S, hS⟩ : ∃ S, S = strOfNums (ps.getD i []) := ⟨_, rfl⟩
        obtain ⟨L, hL⟩ : ∃ L, L = (ps.getD i []).length := ⟨_, rfl⟩
        rw [← hS] at hcv hsz happ
        rw [← hL] at k1 k2 hcv hsz hfl hlong hL64
        have d1 : decide ((100 : Int) < (L : Int)) = false := by simp; omega
        have d2 : ¬ (9223372036854775807 < T.size + S.size) := by omega
        have HFL := Lib.hid hfl; clear hfl
        have HAPP := Lib.hid happ; clear happ
        have hn2 : N + L ≤ 100 * (i + 1) := by omega
        clear hc hc' r1 hmem hL hS hft he hsm
        go_wp2_with fail

        refine ⟨⟨i + 1, N + L, T ++ S, by omega, by go_num, rfl, by simp; omega, by omega, Lib.hid HFL.out.symm, HAPP, by trivial⟩, by simp [intOf]; omega⟩
    · obtain rfl : i = n := by omega
      have htk : ps.take i = ps := List.take_of_length_le (by rw [HPL.out]; exact Nat.le_refl _)
      have hN2 := HN.out
      have hT2 := HT.out
      rw [htk] at hN2 hT2
      have hj := cjoin_any ps A i c w2 HROW.out (by omega) (by omega)
      have hj2 : Calls Try.prog 11 #[.slice A i c] w2 fun e w' => ∃ E c', e = .returned (.slice E N c') ∧ (convert 22 9 (.slice E N c')).run Try.prog w' = .ok (.string T) w' ∧ Below w2.heap.size w2 w' := by
        refine hj.mono fun e w' ⟨v, he, ho, hb⟩ => ?_
        obtain ⟨E, c', rfl, hs, _, _⟩ := row_of_own ho
        refine ⟨E, c', by rw [hN2]; exact he, ?_, hb⟩
        rw [hT2]
        rw [← hN2] at hs
        exact strRow w' E N c' _ hs
      have HJ := Lib.hid hj2; clear hj2 hj
      clear hN2 hT2 htk
      go_wp2_with fail
      refine HJ.out.mono ?_; rintro e w3 ⟨E, c', rfl, hcv, hb3⟩
      go_wp2_with fail
      go_ret
      exact ⟨rfl, hW2.trans (Below.mono hb3 hW2.size)⟩

theorem lawEnds (A : Option Addr) (n c : Nat) (ps : List (List Int)) (W : World) (hr : RowB W A n ps) (hp : ∀ p ∈ ps, p.length ≤ maxLen) (hm : n ≤ maxLen) :
    Calls Try.prog 4 #[.slice A n c] W fun e w' => e = .returned (.bool true) ∧ Below W.heap.size W w' := by
  rcases Nat.lt_or_ge 20 n with h | h
  · exact lawEnds_long A n c W h hm
  · exact lawEnds_short A n c ps W h hr hp
end Go.Proofs.Ytjiagpbmaepamaa
