/- Texts. -/
import Derived.Test.YtaapbmdojkjphaaGreatZ22
import Derived.Test.YtaapbmdojkjphaaGreatZ28
namespace Go.Proofs.YtaapbmdojkjphaaGreat
open Go Go.RowKit
set_option linter.unusedVariables false
set_option maxRecDepth 20000
theorem sign_eq {r : Int} {U x : ByteArray} {j : Nat} (hj : j < 15) (hr : isI r = true) (hU : nums U = [signL.getD j 0]) (hx : nums x = putI r) : (U.toList == x.toList) = decide (signL.getD j 0 = r) := by
  rw [eq_nums, hU, hx]
  have hm : signL.getD j 0 ∈ signL := by
    have hl : j < signL.length := hj
    rw [List.getD, List.getElem?_eq_getElem hl]
    exact List.getElem_mem hl
  obtain ⟨h1, h2⟩ := sign_low hm
  have h0 := isI_cases hr
  rw [Bool.eq_iff_iff, decide_eq_true_iff, decide_eq_true_iff]
  constructor
  · intro h
    rw [← putI_low h2] at h
    have h3 := get_put (show isI (signL.getD j 0) = true by rw [isI_true]; omega) []
    have h4 := get_put hr []
    rw [h, h4] at h3
    exact (congrArg Prod.fst h3).symm
  · intro h
    rw [← h, putI_low h2]
theorem sign_mem {r : Int} {j : Nat} (hj : j < 15) (h : signL.getD j 0 = r) : r ∈ signL := by
  have hl : j < signL.length := hj
  rw [← h, List.getD, List.getElem?_eq_getElem hl]
  exact List.getElem_mem hl
theorem sign_not {r : Int} (h : ∀ i, i < 15 → signL.getD i 0 ≠ r) : ¬ r ∈ signL := by
  intro hm
  obtain ⟨i, hi, e⟩ := List.mem_iff_getElem.1 hm
  refine h i hi ?_
  rw [List.getD, List.getElem?_eq_getElem hi]
  exact e
theorem one_eq {r : Int} {x : ByteArray} (hr : isI r = true) (hx : nums x = putI r) (c : UInt8) (hc : c.toNat < 128) : (x.toList == [c]) = decide (r = (c.toNat : Int)) := by
  have h := eq_nums x ⟨#[c]⟩
  rw [ByteArray.toList_eq ⟨#[c]⟩] at h
  rw [show [c] = (⟨#[c]⟩ : ByteArray).data.toList from rfl, h, hx, Bool.eq_iff_iff, decide_eq_true_iff, decide_eq_true_iff]
  show putI r = [(c.toNat : Int)] ↔ _
  rw [← putI_low (r := (c.toNat : Int)) (by omega)]
  constructor
  · intro h
    have h3 := get_put (show isI (c.toNat : Int) = true by rw [isI_true]; omega) []
    have h4 := get_put hr []
    rw [← h, h4] at h3
    exact congrArg Prod.fst h3
  · intro h; rw [h]
theorem back_ne (x : ByteArray) (c : UInt8) (hc : c ≠ 92) : (((⟨#[92]⟩ : ByteArray) ++ x).toList == [c]) = false := by
  rw [beq_eq_false_iff_ne, ByteArray.toList_eq, ByteArray.data_append, Array.toList_append]
  intro h
  injection h with h
  exact hc h.symm
set_option maxHeartbeats 8000000 in
theorem rquote_any (s : ByteArray) (w : World) (hs : s.size ≤ 1000) : Calls Tryz.prog 6 #[.string s] w fun e w' => e = .returned (.string (quoteS s)) ∧ Below w.heap.size w w' := by
  go_enter Tryz.func6, Tryz.ntmps6
  go_wp2_with fail
  go_loopw [0, 3] (fun v0 v3 wr => ∃ (S o : ByteArray) (pre : List Int), v0 = .string S ∧ v3 = .string o ∧ S.size ≤ 1000 ∧ o.size + 2 * S.size ≤ 2000 ∧ Hid (QuoteAt s S o pre ∧ Below w.heap.size w wr)) (fun v0 _ _ => match v0 with | .string S => S.size | _ => 0)
  case atStart => exact ⟨s, ByteArray.empty, [], rfl, rfl, hs, by simp; omega, Lib.hid ⟨⟨fun c hc => by simp at hc, rfl, rfl, Nat.le_refl _⟩, Below.refl _ _⟩⟩
  case round =>
    obtain ⟨S, o, pre, rfl, rfl, hS, ho, H⟩ := hrel
    rcases Nat.eq_zero_or_pos S.size with h0 | h0
    · have h1 : ¬ ((0 : Int) < (S.size : Int)) := by omega
      have HN := Lib.hid (H.out.1.over h0)
      clear h0
      go_wp2
      go_ret
      exact ⟨by rw [HN.out]; rfl, H.out.2⟩
    · have hne : nums S ≠ [] := fun e => by have := nums_length S; rw [e] at this; simp at this; omega
      have hgb := getI_bounds hne
      have hgp := pointsL_cons hne
      have hbk := get_back hne (nums_byte S)
      have his := getI_is (nums S)
      rw [nums_length] at hgb
      have HG := Lib.hid fun w => refGet_any S w (by unfold maxLen; omega)
      obtain ⟨r, hg1⟩ : ∃ g, g = (getI (nums S)).1 := ⟨_, rfl⟩
      obtain ⟨g2, hg2⟩ : ∃ g, g = (getI (nums S)).2 := ⟨_, rfl⟩
      rw [← hg2] at hgb
      rw [← hg1, ← hg2] at HG hgp hbk
      rw [← hg1] at his
      obtain ⟨m, hm⟩ := Int.eq_ofNat_of_zero_le (show 0 ≤ g2 by omega)
      subst hm
      clear hg1 hg2
      rw [Int.toNat_natCast] at hbk hgp
      have HP := Lib.hid fun w => refPut_is r w his
      have hms : m ≤ S.size := by omega
      have hm1 : 1 ≤ m := by omega
      have h1 : ((0 : Int) < (S.size : Int)) := by omega
      have hms' : (m : Int) ≤ (S.size : Int) := by omega
      have hm0 : (0 : Int) ≤ (m : Int) := by omega
      have hcut : ∀ w : World, (Instr.slice 9 (.string S) none (some (.int .i64 (m : Int))) none).run Tryz.prog w = .ok (.string (S.extract 0 m)) w := fun w => by
        have := run_slice_string_h (P := Tryz.prog) w 9 S Tryz.underlying9 .i64 (m : Int) hm0 hms'
        rwa [Int.toNat_natCast] at this
      obtain ⟨x, hx⟩ : ∃ x, x = S.extract 0 m := ⟨_, rfl⟩
      have hxn : nums x = (nums S).take m := by rw [hx, nums_extract]
      rw [← hx] at hcut
      obtain ⟨p, hp⟩ : ∃ p, p = strOfNums (putI r) := ⟨_, rfl⟩
      rw [← hp] at HP
      have hpn : nums p = putI r := by rw [hp, nums_strOfNums _ (putI_byte r his)]
      have heq := eq_nums p x
      rw [hpn, hxn] at heq
      have hxs : x.size = m := by rw [← nums_length, hxn, List.length_take, nums_length]; omega
      by_cases hz : putI r = (nums S).take m
      · rw [decide_eq_true hz] at heq
        have hxr : nums x = putI r := by rw [hxn, hz]
        have HZ := Lib.hid (And.intro hz (And.intro his (And.intro hms (And.intro hxr (And.intro hm1 (And.intro ho hS))))))
        have hx4 : x.size ≤ 4 := by rw [hxs]; have := putI_len r; have := congrArg List.length hxr; rw [nums_length, hxs] at this; omega
        have ho2 : (o.size : Int) ≤ 2000 := by omega
        have hone := fun (c : UInt8) (hc : c.toNat < 128) => one_eq his hxr c hc
        have hO := Lib.hid hone
        clear hx hp hpn hxn hgb hgp hbk hz hms hm1 hne h0 ho hS hxs hone
        go_wp2_with (first
          | (go_at_call 14; (with_reducible refine (HG.out _).mono ?_); rintro e w1 ⟨rfl, hb1⟩; have H1 := Lib.hid (H.out.2.trans (hb1.mono H.out.2.size)); clear hb1)
          | (go_at_call 15; (with_reducible refine (HP.out _).mono ?_); rintro e w2 ⟨rfl, hb2⟩; have H2 := Lib.hid (H1.out.trans (hb2.mono H1.out.size)); clear hb2))
        go_loopw [6, 8] (fun v6 v8 wr2 => ∃ j : Nat, v6 = .string x ∧ v8 = .int .i64 (j : Int) ∧ j ≤ 15 ∧ Hid ((∀ i, i < j → signL.getD i 0 ≠ r) ∧ Below w.heap.size w wr2)) (fun _ v8 _ => 15 - (intOf v8).toNat)
        case atStart => exact ⟨0, rfl, rfl, Nat.zero_le _, Lib.hid ⟨fun i h => absurd h (by omega), H2.out⟩⟩
        case round =>
          obtain ⟨j, rfl, rfl, hj, HJ⟩ := hrel
          by_cases hlt : j < 15
          · obtain ⟨U, hU, hsc⟩ := sign_cut j hlt
            have hse := sign_eq hlt HZ.out.2.1 hU HZ.out.2.2.2.1
            have hj1 : (j : Int) < 15 := by omega
            have hj0 : (0 : Int) ≤ (j : Int) := by omega
            by_cases hsg : signL.getD j 0 = r
            · rw [decide_eq_true hsg] at hse
              have HY := Lib.hid (sign_quote (sign_mem hlt hsg) HZ.out.2.2.2.1)
              clear hU hlt hj hsg
              have b1 := back_ne x 10 (by decide)
              have b2 := back_ne x 13 (by decide)
              have b3 := back_ne x 9 (by decide)
              go_wp2
              refine ⟨⟨S.extract m S.size, _, pre ++ [r], rfl, rfl, by rw [ByteArray.size_extract]; have := HZ.out.2.2.2.2.2.2; omega, by have := (H.out.1.next HZ.out.2.1 HZ.out.1 HZ.out.2.2.1 HY.out).small; have := hs; omega, Lib.hid ⟨H.out.1.next HZ.out.2.1 HZ.out.1 HZ.out.2.2.1 HY.out, HJ.out.2⟩⟩, by show (S.extract m S.size).size < S.size; rw [ByteArray.size_extract]; have := HZ.out.2.2.1; have := HZ.out.2.2.2.2.1; omega⟩
            · rw [decide_eq_false hsg] at hse
              have HN := Lib.hid (And.intro hsg hlt)
              clear hU hlt hj hsg
              go_wp2
              refine ⟨⟨j + 1, rfl, rfl, HN.out.2, Lib.hid ⟨fun i hi => ?_, HJ.out.2⟩⟩, by have := HN.out.2; simp [intOf]; omega⟩
              rcases Nat.lt_or_ge i j with h2 | h2
              · exact HJ.out.1 i h2
              · obtain rfl : i = j := by omega
                exact HN.out.1
          · have hj1 : ¬ (j : Int) < 15 := by omega
            have HN := Lib.hid (sign_not (r := r) (fun i hi => HJ.out.1 i (by omega)))
            have o1 := hO.out 10 (by decide)
            have o2 := hO.out 13 (by decide)
            have o3 := hO.out 9 (by decide)
            have HI := Lib.hid (And.intro HZ.out.2.1 HZ.out.2.2.2.1)
            clear hj his
            rcases (show r = 10 ∨ r = 13 ∨ r = 9 ∨ (¬ r = 10 ∧ ¬ r = 13 ∧ ¬ r = 9) by omega) with hr | hr | hr | ⟨hr1, hr2, hr3⟩
            · rw [decide_eq_true (by rw [hr]; rfl)] at o1
              have HY : Hid ((⟨#[92, 110]⟩ : ByteArray) = strOfNums (putAll (quoteC r))) := Lib.hid (by rw [hr]; rfl)
              clear hr o2 o3
              go_wp2
              refine ⟨⟨S.extract m S.size, _, pre ++ [r], rfl, rfl, by rw [ByteArray.size_extract]; have := HZ.out.2.2.2.2.2.2; omega, by have := (H.out.1.next HZ.out.2.1 HZ.out.1 HZ.out.2.2.1 HY.out).small; have := hs; omega, Lib.hid ⟨H.out.1.next HZ.out.2.1 HZ.out.1 HZ.out.2.2.1 HY.out, HJ.out.2⟩⟩, by show (S.extract m S.size).size < S.size; rw [ByteArray.size_extract]; have := HZ.out.2.2.1; have := HZ.out.2.2.2.2.1; omega⟩
            · rw [decide_eq_false (by rw [hr]; decide)] at o1
              rw [decide_eq_true (by rw [hr]; rfl)] at o2
              have HY : Hid ((⟨#[92, 114]⟩ : ByteArray) = strOfNums (putAll (quoteC r))) := Lib.hid (by rw [hr]; rfl)
              clear hr o3
              go_wp2
              refine ⟨⟨S.extract m S.size, _, pre ++ [r], rfl, rfl, by rw [ByteArray.size_extract]; have := HZ.out.2.2.2.2.2.2; omega, by have := (H.out.1.next HZ.out.2.1 HZ.out.1 HZ.out.2.2.1 HY.out).small; have := hs; omega, Lib.hid ⟨H.out.1.next HZ.out.2.1 HZ.out.1 HZ.out.2.2.1 HY.out, HJ.out.2⟩⟩, by show (S.extract m S.size).size < S.size; rw [ByteArray.size_extract]; have := HZ.out.2.2.1; have := HZ.out.2.2.2.2.1; omega⟩
            · rw [decide_eq_false (by rw [hr]; decide)] at o1
              rw [decide_eq_false (by rw [hr]; decide)] at o2
              rw [decide_eq_true (by rw [hr]; rfl)] at o3
              have HY : Hid ((⟨#[92, 116]⟩ : ByteArray) = strOfNums (putAll (quoteC r))) := Lib.hid (by rw [hr]; rfl)
              clear hr
              go_wp2
              refine ⟨⟨S.extract m S.size, _, pre ++ [r], rfl, rfl, by rw [ByteArray.size_extract]; have := HZ.out.2.2.2.2.2.2; omega, by have := (H.out.1.next HZ.out.2.1 HZ.out.1 HZ.out.2.2.1 HY.out).small; have := hs; omega, Lib.hid ⟨H.out.1.next HZ.out.2.1 HZ.out.1 HZ.out.2.2.1 HY.out, HJ.out.2⟩⟩, by show (S.extract m S.size).size < S.size; rw [ByteArray.size_extract]; have := HZ.out.2.2.1; have := HZ.out.2.2.2.2.1; omega⟩
            · rw [decide_eq_false (by simpa using hr1)] at o1
              rw [decide_eq_false (by simpa using hr2)] at o2
              rw [decide_eq_false (by simpa using hr3)] at o3
              have HY : Hid (x = strOfNums (putAll (quoteC r))) := Lib.hid (other_quote HN.out hr1 hr2 hr3 HI.out.2)
              clear hr1 hr2 hr3
              go_wp2
              refine ⟨⟨S.extract m S.size, _, pre ++ [r], rfl, rfl, by rw [ByteArray.size_extract]; have := HZ.out.2.2.2.2.2.2; omega, by have := (H.out.1.next HZ.out.2.1 HZ.out.1 HZ.out.2.2.1 HY.out).small; have := hs; omega, Lib.hid ⟨H.out.1.next HZ.out.2.1 HZ.out.1 HZ.out.2.2.1 HY.out, HJ.out.2⟩⟩, by show (S.extract m S.size).size < S.size; rw [ByteArray.size_extract]; have := HZ.out.2.2.1; have := HZ.out.2.2.2.2.1; omega⟩
      · rw [decide_eq_false hz] at heq
        have hno : pointsL (nums S) = none := by rw [hgp, if_neg (fun h => hz (hbk.2 h))]
        have HB := Lib.hid (H.out.1.bad hno)
        clear hx hp hpn hxn hgb hgp hbk hz hms hm1 hne h0 hno
        go_wp2_with (first
          | (go_at_call 14; (with_reducible refine (HG.out _).mono ?_); rintro e w1 ⟨rfl, hb1⟩; have H1 := Lib.hid (H.out.2.trans (hb1.mono H.out.2.size)); clear hb1)
          | (go_at_call 15; (with_reducible refine (HP.out _).mono ?_); rintro e w2 ⟨rfl, hb2⟩; have H2 := Lib.hid (H1.out.trans (hb2.mono H1.out.size)); clear hb2))
        go_ret
        exact ⟨by rw [HB.out]; rfl, H2.out⟩
end Go.Proofs.YtaapbmdojkjphaaGreat
namespace Go.Proofs.YtaapbmdojkjphaaGreat
open Go Go.RowKit
set_option linter.unusedVariables false
set_option maxRecDepth 20000
theorem octQ_len : ∀ l : List Int, l.length ≤ (l.flatMap octQ).length
  | [] => Nat.le_refl _
  | c :: l => by
    have h : 1 ≤ (octQ c).length := by unfold octQ; (repeat' split) <;> simp
    have ih := octQ_len l
    rw [List.flatMap_cons, List.length_append, List.length_cons]
    omega
theorem preok_leafs : ∀ l, Points l → PreOk (leafs l)
  | [], _ => trivial
  | c :: l, h => by
    have hc := isI_cases h.head
    refine ⟨⟨?_, by simp, by decide, by decide, by simp [Wood.len]⟩, trivial, preok_leafs l h.tail⟩
    simp [Canon, CanonF]
    omega
theorem preok_quote {l : List Int} (h : Points l) (h0 : l ≠ []) (hl : l.length ≤ 200) : PreOk (finN .nil (leafs l)) := by
  rw [fin_letters l h0]
  split
  · exact preok_leafs l h
  · refine ⟨⟨by simp [Canon, CanonF], by simp, by decide, by decide, by rw [leafs_len]; omega⟩, preok_leafs l h, trivial⟩
theorem qcomp_any (q : ByteArray) (rs : List Int) (w : World) (hq : q.size ≤ 180) (hn : nums q = putAll (quoteL rs)) (hP : Points rs) (h0 : rs ≠ []) (hl : rs.length ≤ 90) :
    Calls Tryz.prog 8 #[.string q] w fun e w' => ∃ x : Nat, e = .returned (.tuple #[.pointer (some ⟨x, 0, none⟩), .int .i64 0]) ∧ Below w.heap.size w w' ∧ QEng rs w' x := by
  have hlen : (putAll rs).length ≤ 200 := by
    have h1 := octQ_len (putAll rs)
    rw [octQ_all rs hP, ← hn, nums_length] at h1
    omega
  have hPr : ∀ (F : Nat → Prop) (w1 : World) (x : NV), NodesIn F w1 [x] (finN .nil (leafs rs)) → PreC w1 x.val (strOfNums (putAll rs), true) := fun F w1 x hN => by
    have := prefix_any _ _ (Nat.le_refl _) (preok_quote hP h0 (by omega)) _ _ _ hN.one
    rwa [pre_quote hP h0 hlen] at this
  refine (make_any (fun w => pparse_one (parse_quote hP hn) (by omega) w) (by rw [strN_size]; omega) hPr (fun w1 x hN => comp_quote hP h0 (by omega) hn (by omega) hN) w).mono ?_
  rintro e w' ⟨x, S, j, i, rfl, hb, hE, hS, hj, _⟩
  exact ⟨x, rfl, hb, strOfNums (putAll rs), S, j, i, hE, nums_strOfNums _ (putAll_byte _ hP), hS, hj, hlen⟩
def engF : EngF where
  Eng := QEng
  keep h hb := h.keep hb
  quote s w hs := engQuote_any s w (by omega)
  comp q rs w hq hn hP h0 hl := qcomp_any q rs w hq hn hP h0 hl
  is_ rs os t w x hE hP h0 ht hn hO := qis_any hE hP h0 ht hn hO
  all rs t w x hE hP h0 ht hn := qall_any hE hP h0 ht hn
  wake w := awake13_any w
theorem quotesW_any (s t : ByteArray) (w : World) : Calls Tryz.prog 3 #[.string s, .string t] w fun e w' => e = .returned (.bool true) ∧ Below w.heap.size w w' :=
  quotes_any engF rquote_any s t w
end Go.Proofs.YtaapbmdojkjphaaGreat
