/- CodeThrough: of any octets, code point by code point, all are passed: the walk. -/
import Derived.Test.YtgkkflfkmedapaaLawPuts
import Derived.Laws.IdiomStrings
namespace Go.Proofs.Ytgkkflfkmedapaa
open Go Go.RowKit
set_option linter.unusedVariables false

/-- []byte(s). -/
theorem bytes_run (s : ByteArray) (w : World) (hs : s.size ≤ maxLen) : ∃ A c w', (convert 9 22 (.string s)).run Try.prog w = .ok (.slice A s.size c) w' ∧ RowI .u8 w' A s.size (nums s) ∧ s.size ≤ c ∧ c ≤ maxLen ∧ Below w.heap.size w w' := by
  refine ⟨_, _, _, run_bytes_of_string w _ _ _ s Try.underlying9 Try.underlying22 Try.underlying5, ⟨nums_length s, fun h0 => ⟨_, _, rfl, ?_, fun j hj => ?_⟩⟩, ?_, ?_, ?_⟩
  · show w.heap.size < (w.heap.push _).size
    rw [Array.size_push]; omega
  · rw [Nat.zero_add]
    refine (World.cell?_alloc_mark w.drew _ _ _ j).trans ?_
    unfold bytesRow
    rw [Array.getElem?_append_left (by rw [Array.size_map]; exact hj), Array.getElem?_map]
    have hj' : j < s.data.size := hj
    have hn : j < (nums s).length := by rw [nums_length]; exact hj
    rw [Array.getElem?_eq_getElem hj']
    have e := nums_get s j hj hn
    rw [List.getD, List.getElem?_eq_getElem hn, Option.getD_some, e]
    rfl
  · exact grownCap_ge w s.size 0 _
  · exact grownCap_le_maxLen w s.size 0 _ hs
  · exact ((Below.refl _ _).drew).alloc (Nat.le_refl _) _

theorem getI_bounds {l : List Int} (h : l ≠ []) : 1 ≤ (getI l).2 ∧ (getI l).2 ≤ l.length := by
  cases l with
  | nil => exact absurd rfl h
  | cons x t =>
    simp only [getI, List.length_cons]
    have := lenI_or x
    (repeat' split) <;> simp <;> omega
theorem getI_is (l : List Int) : isI (getI l).1 = true := by
  cases l with
  | nil => decide
  | cons x t =>
    simp only [getI]
    split
    · decide
    · split
      · rename_i h1 h2
        exact szI_pos_is h2.2 (by have := lenI_or x; omega)
      · decide

/-- The octets of many code points, one behind the other. -/
def putAll : List Int → List Int
  | [] => []
  | c :: cs => putI c ++ putAll cs
theorem putAll_snoc : ∀ (cs : List Int) (c : Int), putAll (cs ++ [c]) = putAll cs ++ putI c
  | [], c => by simp [putAll]
  | d :: cs, c => by simp only [List.cons_append, putAll, putAll_snoc cs c, List.append_assoc]
theorem putAll_append : ∀ (ds bs : List Int), putAll (ds ++ bs) = putAll ds ++ putAll bs
  | [], _ => rfl
  | d :: ds, bs => by simp only [List.cons_append, putAll, putAll_append ds bs, List.append_assoc]
theorem nums_extract_to (s : ByteArray) (p : Nat) : nums (s.extract p s.size) = (nums s).drop p := by
  unfold nums
  rw [← List.map_drop]
  congr 1
  rw [ByteArray.data_extract, Array.toList_extract]
  show (s.data.toList.drop p).take (s.size - p) = _
  exact List.take_of_length_le (by rw [List.length_drop, Array.length_toList]; exact Nat.le_refl _)
theorem putAll_len : ∀ cs : List Int, cs.length ≤ (putAll cs).length ∧ (putAll cs).length ≤ 4 * cs.length
  | [] => by simp [putAll]
  | c :: cs => by
    have h := putI_len c
    have h2 := putAll_len cs
    simp only [putAll, List.length_append, List.length_cons]
    omega
theorem putAll_byte : ∀ cs : List Int, (∀ c ∈ cs, isI c = true) → ∀ x ∈ putAll cs, 0 ≤ x ∧ x < 256
  | [], _, x, hx => by simp [putAll] at hx
  | c :: cs, h, x, hx => by
    rw [putAll, List.mem_append] at hx
    rcases hx with hx | hx
    · exact putI_byte c (h c (by simp)) x hx
    · exact putAll_byte cs (fun d hd => h d (List.mem_cons_of_mem _ hd)) x hx

theorem through_long (A : Option Addr) (len cap : Nat) (w : World) (hl : 200 < len) (hm : len ≤ maxLen) :
    Calls Try.prog 8 #[.slice A len cap] w fun e w' => e = .returned (.bool true) ∧ Below w.heap.size w w' := by
  unfold maxLen at hm
  have hd : decide ((200 : Int) < (len : Int)) = true := by simp; omega
  go_enter Try.func8, Try.ntmps8
  go_wp2_with fail
  refine (awake_any _).mono ?_; rintro e w1 ⟨rfl, hbel⟩
  go_wp2_with fail
  refine (awake_any _).mono ?_; rintro e w2 ⟨rfl, hbel2⟩
  go_wp2_with fail
  go_ret
  exact ⟨rfl, hbel.trans (Below.mono hbel2 hbel.size)⟩

set_option maxHeartbeats 1000000 in
theorem through_short (A : Option Addr) (len cap : Nat) (l : List Int) (W : World) (hl : len ≤ 200) (hr : RowI .u8 W A len l) (hnil : A = none → len = 0 ∧ cap = 0) (hca : len ≤ cap) (hcm : cap ≤ maxLen) (hby : ∀ c ∈ l, 0 ≤ c ∧ c < 256) :
    Calls Try.prog 8 #[.slice A len cap] W fun e w' => e = .returned (.bool true) ∧ Below W.heap.size W w' := by
  have hd : decide ((200 : Int) < (len : Int)) = false := by simp; omega
  have hll := hr.1
  have HR := Lib.hid hr; clear hr
  have HN := Lib.hid hnil; clear hnil
  have HBY := Lib.hid hby; clear hby
  have HLL := Lib.hid hll; clear hll
  have hcm2 : cap ≤ 9223372036854775807 := by unfold maxLen at hcm; omega
  have HCM := Lib.hid hcm; clear hcm
  go_enter Try.func8, Try.ntmps8
  go_wp2_with fail
  refine (awake_any _).mono ?_; rintro e w1 ⟨rfl, hbel⟩
  go_wp2_with fail
  go_loopw [3, 5] (fun vo va wr => ∃ (k : Nat) (cs : List Int), k ≤ len ∧ cs.length ≤ k ∧ va = .int .i64 k ∧ vo = .string (strOfNums (putAll cs)) ∧ Hid (∀ c ∈ cs, isI c = true) ∧ Below W.heap.size W wr) (fun _ va _ => len - (intOf va).toNat)
  case atStart => exact ⟨0, [], by omega, by simp, rfl, rfl, Lib.hid (by simp), hbel⟩
  case round =>
    obtain ⟨k, cs, hk, hck, rfl, rfl, HCS, hb⟩ := hrel
    by_cases hlt : k < len
    · obtain ⟨b, o, rfl, _, _⟩ := HR.out.2 (by omega)
      have hr1 := HR.out.below hb (Nat.le_refl _)
      have hcut := hr1.cut (i := k) (j := len) (by omega) (Nat.le_refl _)
      rw [show (l.drop k).take (len - k) = l.drop k by rw [List.take_of_length_le]; rw [List.length_drop, HLL.out]; exact Nat.le_refl _] at hcut
      have hne : l.drop k ≠ [] := by
        intro h
        have := congrArg List.length h
        rw [List.length_drop, HLL.out] at this
        simp at this
        omega
      have hbd := getI_bounds hne
      have his := getI_is (l.drop k)
      rw [List.length_drop, HLL.out] at hbd
      have hget := get_any (some ⟨b, o + k, none⟩) (len - k) (cap - k) (l.drop k) wr hcut (fun c hc => HBY.out c (List.mem_of_mem_drop hc)) (by omega) (Nat.le_trans (Nat.sub_le _ _) HCM.out) (by omega)
      obtain ⟨g1, hg1⟩ : ∃ g, g = (getI (l.drop k)).1 := ⟨_, rfl⟩
      obtain ⟨g2, hg2⟩ : ∃ g, g = (getI (l.drop k)).2 := ⟨_, rfl⟩
      rw [← hg1] at his
      rw [← hg2] at hbd
      rw [← hg1, ← hg2] at hget
      obtain ⟨m, hm⟩ := Int.eq_ofNat_of_zero_le (show 0 ≤ g2 by omega)
      subst hm
      have hput := fun w => put_abs g1 w
      rw [show sndI g1 = g1 by simp [sndI, his]] at hput
      have hpl := putI_len g1
      obtain ⟨n, hn⟩ : ∃ n, n = (putI g1).length := ⟨_, rfl⟩
      rw [← hn] at hput hpl
      have hlen := putAll_len cs
      have hcat : ¬ 9223372036854775807 < (strOfNums (putAll cs)).size + (strOfNums (putI g1)).size := by rw [strOfNums_size, strOfNums_size, ← hn]; omega
      have hne1 : ¬ cap = k := by omega
      have hm1 : 1 ≤ m := by omega
      have hm2 : k + m ≤ len := by omega
      have d1 : decide ((m : Int) < 1) = false := by simp; omega
      have d2 : decide ((len : Int) < (k : Int) + (m : Int)) = false := by simp; omega
      have HGET := Lib.hid hget; clear hget
      have HPUT := Lib.hid hput; clear hput
      have HIS := Lib.hid his; clear his
      have Hn := Lib.hid hn; clear hn
      clear hg1 hg2 hcut hr1 hne hbd hlen
      go_wp2_with fail
      refine HGET.out.mono ?_; rintro e w' ⟨rfl, q, rfl⟩
      go_wp2_with fail
      refine (HPUT.out _).mono ?_; rintro e w3 ⟨Ap, rfl, hpr, hAp, hb3⟩
      have cv := strRow w3 Ap n n (putI g1) hpr
      have hb3' : Below W.heap.size W w3 := (below_drewN hb q).trans (Below.mono hb3 hb.size)
      clear hpr hAp hb3
      go_wp2_with fail
      refine ⟨⟨k + m, cs ++ [g1], by omega, by simp; omega, by go_num, ?_, Lib.hid ?_, hb3'⟩, by simp [intOf]; omega⟩
      · rw [putAll_snoc]
        simp [strOfNums]
        rfl
      · intro c hc
        rcases List.mem_append.1 hc with h | h
        · exact HCS.out c h
        · obtain rfl : c = g1 := by simpa using h
          exact HIS.out
    · obtain rfl : k = len := by omega
      have hbytes := putAll_byte cs HCS.out
      have hplen := putAll_len cs
      obtain ⟨S, hS⟩ : ∃ S, S = strOfNums (putAll cs) := ⟨_, rfl⟩
      have hnS : nums S = putAll cs := by rw [hS]; exact nums_strOfNums _ hbytes
      have hSz : S.size = (putAll cs).length := by rw [hS, strOfNums_size]
      rw [← hS]
      have HS := Lib.hid hS; clear hS
      have HNS := Lib.hid hnS; clear hnS
      have hS800 : S.size ≤ 800 := by omega
      have HSZ := Lib.hid hSz; clear hSz
      clear hbytes hplen
      obtain ⟨wo, hwo⟩ : ∃ wo : World, wo = wr := ⟨_, rfl⟩
      subst hwo
      go_wp2_with fail
      go_loopw [4, 8] (fun vt va wr => ∃ (p : Nat) (done todo : List Int), p ≤ S.size ∧ done.length ≤ p ∧ va = .int .i64 p ∧ vt = .string (strOfNums (putAll done)) ∧ Hid (cs = done ++ todo) ∧ Hid (p = (putAll done).length) ∧ Below W.heap.size W wr) (fun _ va _ => S.size - (intOf va).toNat)
      case atStart => exact ⟨0, [], cs, by omega, by simp, rfl, rfl, Lib.hid (by simp), Lib.hid rfl, hb⟩
      case round =>
        obtain ⟨p, done, todo, hp, hdp, rfl, rfl, HC, HP, hb2⟩ := hrel
        by_cases hlt2 : p < S.size
        · rcases todo with _ | ⟨c, rest⟩
          · exfalso
            have h1 := HC.out
            rw [List.append_nil] at h1
            have h2 := HSZ.out
            rw [h1, ← HP.out] at h2
            omega
          have hci : isI c = true := HCS.out c (by rw [HC.out]; simp)
          have hX : nums (S.extract p S.size) = putI c ++ putAll rest := by
            rw [nums_extract_to, HNS.out, HC.out, putAll_append, putAll, HP.out, List.drop_left]
          have hXs : (S.extract p S.size).size = S.size - p := by rw [ByteArray.size_extract]; omega
          obtain ⟨X, hXe⟩ : ∃ X, X = S.extract p S.size := ⟨_, rfl⟩
          rw [← hXe] at hX hXs
          have hXb := nums_byte X
          obtain ⟨Ab, cb, w2, hrun, hrow, hcb1, hcb2, hbw⟩ := bytes_run X wr (by unfold maxLen; omega)
          have hget := get_any Ab X.size cb (nums X) w2 hrow hXb hcb1 hcb2 (by omega)
          rw [hX, get_put hci] at hget
          simp only at hget
          have hput := fun w => put_abs c w
          rw [show sndI c = c by simp [sndI, hci]] at hput
          have hpl := putI_len c
          have hsz := fun w => size_any c w
          rw [szI_len hci] at hsz
          have hpd := putAll_len done
          obtain ⟨n, hn⟩ : ∃ n, n = (putI c).length := ⟨_, rfl⟩
          rw [← hn] at hget hput hpl hsz
          have hfit : p + n ≤ S.size := by
            have h2 := HSZ.out
            rw [HC.out, putAll_append, putAll, List.length_append, List.length_append, ← HP.out, ← hn] at h2
            omega
          have hcat : ¬ 9223372036854775807 < (strOfNums (putAll done)).size + (strOfNums (putI c)).size := by rw [strOfNums_size, strOfNums_size, ← hn, ← HP.out]; omega
          have e1 : ((n : Int) != (n : Int)) = false := by simp
          have hbw' : Below W.heap.size W w2 := hb2.trans (Below.mono hbw hb2.size)
          rw [hXs] at hrun hget
          rw [hXe] at hrun
          have HRUN := Lib.hid hrun
          have HGET := Lib.hid hget; clear hget
          have HPUT := Lib.hid hput; clear hput
          have HSIZE := Lib.hid hsz; clear hsz
          have Hn := Lib.hid hn; clear hn
          clear hXe hX hXs hXb hrow hcb1 hcb2 hbw hpd hci
          go_wp2_with fail
          with_reducible refine HGET.out.mono ?_
          rintro e w' ⟨rfl, q, rfl⟩
          go_wp2_with fail
          refine (HSIZE.out _).mono ?_; rintro e w' ⟨rfl, rfl⟩
          go_wp2_with fail
          refine (HPUT.out _).mono ?_; rintro e w3 ⟨Ap, rfl, hpr, hAp, hb3⟩
          have cv := strRow w3 Ap n n (putI c) hpr
          have hb3' : Below W.heap.size W w3 := (below_drewN hbw' q).trans (Below.mono hb3 hbw'.size)
          clear hpr hAp hb3 hrun
          go_wp2_with fail
          refine ⟨⟨p + n, done ++ [c], rest, by omega, by simp; omega, by go_num, ?_, Lib.hid ?_, Lib.hid ?_, hb3'⟩, by simp [intOf]; omega⟩
          · rw [putAll_snoc]
            simp [strOfNums]
            rfl
          · rw [HC.out, List.append_assoc]; rfl
          · rw [putAll_snoc, List.length_append, HP.out, Hn.out]
        · obtain rfl : p = S.size := by omega
          have htd : todo = [] := by
            have h2 := HSZ.out
            rw [HC.out, putAll_append, List.length_append, ← HP.out] at h2
            have h3 := putAll_len todo
            exact List.eq_nil_of_length_eq_zero (by omega)
          have he : strOfNums (putAll done) = S := by
            rw [HS.out, HC.out, htd, List.append_nil]
          rw [he]
          clear he htd
          go_wp2_with fail
          go_ret
          exact ⟨rfl, hb2⟩

theorem lawThrough (A : Option Addr) (len cap : Nat) (zs : List Int) (W : World)
    (h : (A = none ∧ len = 0 ∧ cap = 0 ∧ zs = []) ∨
      ∃ x, A = some x ∧ len ≤ cap ∧ cap ≤ maxLen ∧ zs.length = cap ∧ (∀ i, i < zs.length → W.cell? (x.add i) = some (.int .u8 (zs.getD i 0))) ∧ ∀ n ∈ zs, (Lit.int .u8 n).wf = true) :
    Calls Try.prog 8 #[.slice A len cap] W fun e w' => e = .returned (.bool true) ∧ Below W.heap.size W w' := by
  obtain ⟨hr, hcap, hcm, hnil, hwf⟩ := rowI_of_row h
  rcases Nat.lt_or_ge 200 len with hl | hl
  · exact through_long A len cap W hl (Nat.le_trans hcap hcm)
  · exact through_short A len cap (zs.take len) W hl hr hnil hcap hcm (fun c hc => byte_of_wf (hwf c hc))
end Go.Proofs.Ytgkkflfkmedapaa
