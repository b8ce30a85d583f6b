/- A splitter: Write. -/
import Derived.Test.YtnfekbmmnenbfaaScan
namespace Go.Proofs.Ytnfekbmmnenbfaa
open Go Go.RowKit
set_option linter.unusedVariables false

def sizeV : Value → Nat
  | .string s => s.size
  | _ => 0

section
variable {w : World} {B g m n p : Nat} {V : Value} {cur : List Int}
/-- All is over: nothing is told. -/
theorem write_over (h : SplAt w B g m n p V cur true) (T : ByteArray) :
    Calls Try.prog 12 #[.pointer (some ⟨g, 0, none⟩), .string T] w fun e w' => e = .returned (.tuple #[.slice none 0 0, .int .i64 0]) ∧ ∃ q, w' = w.drewN q := by
  have c4 := h.c4
  clear h
  go_enter Try.func12, Try.ntmps12
  go_wp2_with fail
  go_loopw [1, 6] (fun vt vr wr => vt = .string T ∧ vr = .slice none 0 0 ∧ wr = w) (fun _ _ _ => 0)
  case atStart => exact ⟨rfl, rfl, rfl⟩
  case round =>
    obtain ⟨rfl, rfl, rfl⟩ := hrel
    go_wp2_with fail
    go_ret2
    exact ⟨rfl, 0, rfl⟩

set_option maxHeartbeats 4000000 in
/-- The records that end in the text are told; ErrLong, as soon as it is known. -/
theorem write_any (st : ScanS) (h : SplAt w B g m st.recs.length st.pos V st.cur false) (hg : Good m st) (hm : m ≤ 4096) (T : ByteArray) (hT : T.size ≤ 100000) (hp : st.pos + st.cur.length ≤ 1000000) (hr : st.recs.length ≤ 1000000) :
    Calls Try.prog 12 #[.pointer (some ⟨g, 0, none⟩), .string T] w fun e w' => ∃ A k c news err V', e = .returned (.tuple #[.slice A k c, .int .i64 err]) ∧ w'.ownsRow w.heap.size 40 3 (.slice A k c) k (cellsR news) ∧ news.length = k ∧ (scanR m (nums T) st).recs = st.recs ++ news ∧ Touch B g w w' ∧
      ((Good m (scanR m (nums T) st) ∧ err = 0 ∧ SplAt w' B g m (scanR m (nums T) st).recs.length (scanR m (nums T) st).pos V' (scanR m (nums T) st).cur false) ∨ (¬ Good m (scanR m (nums T) st) ∧ err = 10 ∧ ∃ n p, SplAt w' B g m n p (.slice none 0 0) [] true)) := by
  have hB := h.leB
  have HS0 := Lib.hid h
  have HG0 := Lib.hid hg
  clear h hg
  obtain ⟨STE, hSTE⟩ : ∃ x, x = scanR m (nums T) st := ⟨_, rfl⟩
  rw [← hSTE]
  have HSTE := Lib.hid hSTE
  clear hSTE
  go_enter Try.func12, Try.ntmps12
  go_wp2_with fail
  go_loopw [1, 6] (fun vt vr wr => ∃ (sk : ScanS) (S : ByteArray) (A : Option Addr) (k c : Nat) (Vk : Value) (news : List RecL), vt = .string S ∧ vr = .slice A k c ∧ S.size ≤ 100000 ∧ Hid (Good m sk ∧ STE = scanR m (nums S) sk ∧ sk.recs = st.recs ++ news ∧ news.length = k ∧ sk.pos + sk.cur.length + S.size ≤ st.pos + st.cur.length + T.size ∧ sk.recs.length + S.size ≤ st.recs.length + T.size) ∧
    Hid (SplAt wr B g m sk.recs.length sk.pos Vk sk.cur false) ∧ Hid (wr.ownsRow w.heap.size 40 3 (.slice A k c) k (cellsR news)) ∧ Hid (Touch B g w wr)) (fun vt _ _ => sizeV vt)
  case atStart => exact ⟨st, T, none, 0, 0, V, [], rfl, rfl, hT, Lib.hid ⟨HG0.out, HSTE.out, (List.append_nil _).symm, rfl, Nat.le_refl _, Nat.le_refl _⟩, HS0, Lib.hid (World.ownsRow_nil _ _ _ _), Lib.hid (Touch.refl _ _ _)⟩
  case round =>
    obtain ⟨sk, S, A, k, c, Vk, news, rfl, rfl, hS, HI, HS, HO, HT⟩ := hrel
    have c4 := HS.out.c4
    have hbounds := HI.out.2.2.2.2
    have hcl : sk.cur.length ≤ 5000 := by have := chop_ge sk.cur; have := HI.out.1.2; omega
    obtain ⟨Ak, ck, rfl, _⟩ := HS.out.isSlice
    rcases Nat.eq_zero_or_pos S.size with h0 | h0
    · have hSn : S = ⟨#[]⟩ := by
        apply ByteArray.ext
        apply Array.eq_empty_of_size_eq_zero
        exact h0
      subst hSn
      clear h0
      go_wp2_with fail
      go_ret2
      have he : STE = sk := HI.out.2.1
      rw [he]
      exact ⟨A, k, c, news, 0, _, rfl, HO.out, HI.out.2.2.2.1, HI.out.2.2.1, HT.out, .inl ⟨HI.out.1, rfl, HS.out⟩⟩
    · have hne : (S.toList == []) = false := by
        rw [Lib.toList_data, beq_eq_false_iff_ne]
        intro e
        have h1 := congrArg List.length e
        rw [Array.length_toList] at h1
        have h2 : S.data.size = S.size := rfl
        rw [h2] at h1
        have h3 : S.size = 0 := h1
        omega
      rcases line_cases S with ⟨hix, hno⟩ | ⟨i, hix, hi, hnum, hno⟩
      · have HC := Lib.hid (cut0_any S wr hix)
        have HTL := Lib.hid (tooLong_any HS.out S (by omega) (by omega) hm)
        have hsc := scan_other m (nums S) sk HI.out.1.1 hno
        have hca := chop_append sk.cur (nums S) (by rw [nums_length]; exact h0)
        by_cases hlong : m < sk.cur.length + (chop (nums S)).length
        · rw [decide_eq_true ⟨h0, hlong⟩] at HTL
          have hbad : ¬ Good m STE := by
            rw [HI.out.2.1, hsc]
            intro q
            have := q.2
            rw [hca] at this
            omega
          have hrecs : STE.recs = st.recs ++ news := by rw [HI.out.2.1, hsc]; exact HI.out.2.2.1
          have HBAD := Lib.hid (And.intro hbad hrecs)
          clear hbad hrecs hsc hca hlong hno hix
          go_wp2_with (first
            | (go_at_call 15; refine HC.out.mono ?_; rintro e w' ⟨rfl, rfl⟩)
            | (go_at_call 16; refine HTL.out.mono ?_; rintro e w' ⟨rfl, q, rfl⟩)
            | (go_at_call 17; refine (finish_any (HS.out.drewN q)).mono ?_; rintro e w5 ⟨rfl, hs5, ht5⟩; have HS5 := Lib.hid hs5; have HT5 := Lib.hid ((HT.out.drewN q).trans ht5); have HO5 := Lib.hid (row_touch (e := 40) HO.out ((Touch.refl B g wr).drewN q |>.trans ht5) (row_ne_blk HO.out HS.out.blk (by decide)) (by decide)); clear hs5 ht5))
          go_ret2
          exact ⟨A, k, c, news, 10, .slice none 0 0, rfl, HO5.out, HI.out.2.2.2.1, HBAD.out.2, HT5.out, .inr ⟨HBAD.out.1, rfl, _, _, HS5.out⟩⟩
        · rw [decide_eq_false (fun q => hlong q.2)] at HTL
          have hgood : Good m ⟨sk.recs, sk.pos, sk.cur ++ nums S, false⟩ := ⟨rfl, by show (chop (sk.cur ++ nums S)).length ≤ m; rw [hca]; omega⟩
          have HN := Lib.hid (And.intro hgood hsc)
          clear hgood hsc hca hlong hno hix hbounds
          go_wp2_with (first
            | (go_at_call 15; refine HC.out.mono ?_; rintro e w' ⟨rfl, rfl⟩)
            | (go_at_call 16; refine HTL.out.mono ?_; rintro e w' ⟨rfl, q, rfl⟩; have c3 := (HS.out.drewN q).c3; obtain ⟨A', c', w4, happ, hc3, hf3, hfin⟩ := (HS.out.drewN q).app S (by omega); have HA := Lib.hid happ; clear happ)
            | (at_builtin; refine Lib.wpList_append_run _ rfl _ _ 42 9 rfl _ _ rfl rfl _ _ HA.out ?_))
          have hz : nums (⟨#[]⟩ : ByteArray) = [] := rfl
          refine ⟨⟨⟨sk.recs, sk.pos, sk.cur ++ nums S, false⟩, ⟨#[]⟩, A, k, c, _, news, rfl, rfl, Nat.zero_le _, Lib.hid ⟨HN.out.1, ?_, HI.out.2.2.1, HI.out.2.2.2.1, ?_, ?_⟩, Lib.hid hfin.out.1, Lib.hid ?_, Lib.hid ((HT.out.drewN q).trans hfin.out.2)⟩, h0⟩
          · rw [HI.out.2.1, HN.out.2]; rfl
          · have := HI.out.2.2.2.2.1
            show sk.pos + (sk.cur ++ nums S).length + 0 ≤ _
            rw [List.length_append, nums_length]; omega
          · have := HI.out.2.2.2.2.2
            show sk.recs.length + 0 ≤ _
            omega
          · exact row_touch (e := 40) HO.out (((Touch.refl B g wr).drewN q).trans hfin.out.2) (row_ne_blk HO.out HS.out.blk (by decide)) (by decide)
      · obtain ⟨P, hP⟩ : ∃ P, P = S.extract 0 i := ⟨_, rfl⟩
        obtain ⟨R, hR⟩ : ∃ R, R = S.extract (i + 1) S.size := ⟨_, rfl⟩
        have hPs : P.size = i := by rw [hP, ByteArray.size_extract]; omega
        have hRs : R.size + i + 1 = S.size := by rw [hR, ByteArray.size_extract]; omega
        have HC := cut1_any S i wr hix hi (by omega)
        rw [← hP, ← hR] at HC hnum
        rw [← hP] at hno
        have HC := Lib.hid HC
        clear hP hR
        have HTL := fun q => tooLong_any (HS.out.drewN q) P (by omega) (by omega) hm
        by_cases hlong : 0 < P.size ∧ m < sk.cur.length + (chop (nums P)).length
        · rw [decide_eq_true hlong] at HTL
          have HTL := Lib.hid HTL
          have hsc : STE = ⟨sk.recs, sk.pos, sk.cur ++ nums P, true⟩ := by rw [HI.out.2.1, hnum]; exact hit_long m sk _ _ HI.out.1 hno (by rw [nums_length]; exact hlong)
          have hbad : ¬ Good m STE := by
            rw [hsc]
            intro q
            exact Bool.noConfusion (show true = false from q.1)
          have hrecs : STE.recs = st.recs ++ news := by rw [hsc]; exact HI.out.2.2.1
          have HBAD := Lib.hid (And.intro hbad hrecs)
          clear hbad hrecs hsc hlong hno hix hnum hbounds
          go_wp2_with (first
            | (go_at_call 15; refine HC.out.mono ?_; rintro e w' ⟨rfl, q0, rfl⟩)
            | (go_at_call 16; refine (HTL.out q0).mono ?_; rintro e w' ⟨rfl, q, rfl⟩)
            | (go_at_call 17; refine (finish_any (HS.out.drewN (q0 + q))).mono ?_; rintro e w5 ⟨rfl, hs5, ht5⟩; have HS5 := Lib.hid hs5; have HT5 := Lib.hid ((HT.out.drewN (q0 + q)).trans ht5); have HO5 := Lib.hid (row_touch (e := 40) HO.out (((Touch.refl B g wr).drewN (q0 + q)).trans ht5) (row_ne_blk HO.out HS.out.blk (by decide)) (by decide)); clear hs5 ht5))
          go_ret2
          exact ⟨A, k, c, news, 10, .slice none 0 0, rfl, HO5.out, HI.out.2.2.2.1, HBAD.out.2, HT5.out, .inr ⟨HBAD.out.1, rfl, _, _, HS5.out⟩⟩
        · rw [decide_eq_false hlong] at HTL
          have HTL := Lib.hid HTL
          have hl' : ¬ (0 < (nums P).length ∧ m < sk.cur.length + (chop (nums P)).length) := by rw [nums_length]; exact hlong
          have hsc : STE = scanR m (nums R) ⟨sk.recs ++ [⟨sk.recs.length, sk.pos, chop (sk.cur ++ nums P)⟩], sk.pos + (sk.cur ++ nums P).length + 1, [], false⟩ := by rw [HI.out.2.1, hnum]; exact hit_ok m sk _ _ HI.out.1 hno hl'
          have HN := Lib.hid hsc
          have hcp : (sk.cur ++ nums P).length ≤ 1000000 := by rw [List.length_append, nums_length, hPs]; omega
          have hpl : sk.cur.length + P.size ≤ 10000000 := by omega
          have hkk : k ≤ 10000000 := by have := HI.out.2.2.1; have h2 := HI.out.2.2.2.1; rw [this, List.length_append] at hbounds; omega
          have hq2 : sk.recs.length ≤ 10000000 := by omega
          have hq3 : sk.pos ≤ 10000000 := by omega
          have HB := Lib.hid hbounds
          have HPS := Lib.hid (And.intro hPs hRs)
          clear hsc hlong hno hix hnum hl' hbounds hPs hRs hi
          go_wp2_with (first
            | (go_at_call 15; refine HC.out.mono ?_; rintro e w' ⟨rfl, q0, rfl⟩)
            | (go_at_call 16; refine (HTL.out q0).mono ?_; rintro e w' ⟨rfl, q, rfl⟩; have c3 := (HS.out.drewN (q0 + q)).c3; obtain ⟨A', c', w4, happ, hc3, hf3, hfin⟩ := (HS.out.drewN (q0 + q)).app P hpl; have HA := Lib.hid happ; clear happ)
            | (go_at_call 18; refine (next_any hfin.out.1 hcp hq2 hq3).mono ?_; rintro e w5 ⟨rfl, V5, h5, ht5⟩; have hta := ((Touch.refl B g wr).drewN (q0 + q)).trans (hfin.out.2.trans ht5); have hro := row_touch (e := 40) HO.out hta (row_ne_blk HO.out HS.out.blk (by decide)) (by decide); obtain ⟨P', pc', w6, happ2, hown6, hs6, ht6⟩ := push_spl h5 (HT.out.trans hta) hB hro hkk ⟨sk.recs.length, sk.pos, chop (sk.cur ++ nums P)⟩; have HA2 := Lib.hid happ2; have HE := Lib.hid (And.intro hown6 (And.intro hs6 ht6)); clear happ2 hown6 hs6 ht6 h5 ht5 hta hro)
            | (at_builtin; refine Lib.wpList_append_run _ rfl (.tmp 35) (.tmp 36) 42 9 rfl _ _ rfl rfl _ _ HA.out ?_)
            | (at_builtin; refine wpList_append_run rfl (.tmp 41) (.tmp 44) 23 rfl rfl _ _ _ _ rfl rfl HA2.out ?_))
          have e1 := HPS.out.1
          have e2 := HPS.out.2
          have hb1 := HB.out.1
          have hb2 := HB.out.2
          refine ⟨⟨⟨sk.recs ++ [⟨sk.recs.length, sk.pos, chop (sk.cur ++ nums P)⟩], sk.pos + (sk.cur ++ nums P).length + 1, [], false⟩, R, P', k + 1, pc', V5, news ++ [⟨sk.recs.length, sk.pos, chop (sk.cur ++ nums P)⟩], rfl, rfl, by omega, Lib.hid ⟨⟨rfl, Nat.zero_le _⟩, HN.out, ?_, ?_, ?_, ?_⟩, Lib.hid ?_, Lib.hid HE.out.1, Lib.hid HE.out.2.2⟩, ?_⟩
          · rw [HI.out.2.2.1, List.append_assoc]
          · rw [List.length_append, HI.out.2.2.2.1]; rfl
          · show sk.pos + (sk.cur ++ nums P).length + 1 + 0 + R.size ≤ _
            rw [List.length_append, nums_length]; omega
          · show (sk.recs ++ [_]).length + R.size ≤ _
            rw [List.length_append]
            show sk.recs.length + 1 + R.size ≤ _
            omega
          · show SplAt w6 B g m (sk.recs ++ [_]).length _ _ _ _
            rw [List.length_append]
            exact HE.out.2.1
          · show R.size < S.size
            omega
end
end Go.Proofs.Ytnfekbmmnenbfaa
