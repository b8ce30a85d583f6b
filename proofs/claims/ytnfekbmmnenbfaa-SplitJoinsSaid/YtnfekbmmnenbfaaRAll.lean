/- The document's own records of a text. -/
import Derived.Test.YtnfekbmmnenbfaaRecL
namespace Go.Proofs.Ytnfekbmmnenbfaa
open Go Go.RowKit
set_option linter.unusedVariables false

/-- append of a record whose octets are cut out of a text. -/
theorem pushX {W w : World} (P : Option Addr) (q pc : Nat) (rs : List RecL) (S : ByteArray) (p t : Nat) (hown : w.ownsRow W.heap.size 40 3 (.slice P q pc) q (cellsR rs)) (hq : q ≤ 1000000) (hb : Below W.heap.size W w) (hlen : rs.length = q) :
    ∃ P' pc' w', (Builtin.append_ #[23, 23] 23 #[.slice P q pc, .slice (some ⟨w.heap.size, 0, none⟩) 1 1]).run Try.prog (w.alloc (.cells #[.int .i64 (q : Int), .int .i64 (p : Int), .string (S.extract p t)] 40)) = .ok (.slice P' (q + 1) pc') w' ∧
      w'.ownsRow W.heap.size 40 3 (.slice P' (q + 1) pc') (q + 1) (cellsR (rs ++ [⟨rs.length, p, ((nums S).drop p).take (t - p)⟩])) ∧ Below W.heap.size W w' := by
  obtain ⟨V', w', h1, h2, h3⟩ := pushR_run w W.heap.size _ q _ hown ⟨rs.length, p, ((nums S).drop p).take (t - p)⟩ (by omega) (by unfold maxLen; omega) hb.size
  have hcells : (RecL.cells ⟨rs.length, p, ((nums S).drop p).take (t - p)⟩).toArray = #[.int .i64 (q : Int), .int .i64 (p : Int), .string (S.extract p t)] := by
    rw [extract_nums, hlen]; rfl
  rw [hcells] at h1 h3
  have hb' : Below W.heap.size W w' := (hb.alloc hb.size _).grown h3 (by have := hb.size; simp; omega) (by intro k hk; exact (hown.lt k hk).1)
  rw [cellsR_snoc]
  rcases h2.2 with ⟨rfl, h0⟩ | ⟨g, cap, cur, rfl, _⟩
  · omega
  · exact ⟨_, _, w', h1, h2, hb'⟩

set_option maxHeartbeats 4000000 in
theorem rall_any (m : Nat) (S : ByteArray) (fin : Bool) (W : World) (hn : S.size ≤ 1000000) (hm : m ≤ 4096) :
    Calls Try.prog 9 #[.int .i64 (m : Int), .string S, .bool fin] W fun e w' => ∃ V, e = .returned (.tuple #[V, .int .i64 (allR m (nums S) fin).2.1, .int .i64 ((allR m (nums S) fin).2.2 : Int)]) ∧ w'.ownsRow W.heap.size 40 3 V (allR m (nums S) fin).1.length (cellsR (allR m (nums S) fin).1) ∧ Below W.heap.size W w' := by
  have hnl := nums_length S
  go_enter Try.func9, Try.ntmps9
  go_wp2
  go_loopw [9, 10, 11] (fun vo va vi wr => ∃ (st : ScanS) (i p q pc : Nat) (P : Option Addr), vo = .slice P q pc ∧ va = .int .i64 (p : Int) ∧ vi = .int .i64 (i : Int) ∧ i ≤ S.size ∧ p ≤ i ∧ q ≤ i ∧ Hid (st.recs.length = q) ∧ Hid (st.pos = p) ∧
    Hid (Sc m (nums S) i st) ∧ Hid (wr.ownsRow W.heap.size 40 3 (.slice P q pc) q (cellsR st.recs)) ∧ Hid (Below W.heap.size W wr)) (fun _ _ vi _ => S.size - (intOf vi).toNat)
  case atStart => exact ⟨scan0, 0, 0, 0, 0, none, rfl, rfl, rfl, by omega, by omega, by omega, Lib.hid rfl, Lib.hid rfl, Lib.hid (Sc.zero _ _), Lib.hid (World.ownsRow_nil _ _ _ _), Lib.hid (Below.refl _ _)⟩
  case round =>
    obtain ⟨st, i, p, q, pc, P, rfl, rfl, rfl, hiS, hpi, hqi, HQ, HP, HSC, HOWN, HB⟩ := hrel
    by_cases hi : i < S.size
    · have hix := idx_at S i hi
      obtain ⟨c, hc⟩ : ∃ c, c = (nums S).getD i 0 := ⟨_, rfl⟩
      rw [← hc] at hix
      have HC := Lib.hid hc
      clear hc
      by_cases h10 : c = 10
      · subst h10
        by_cases hpi2 : p < i
        · have hsub : ((i : Int) - 1) = ((i - 1 : Nat) : Int) := by omega
          have hix2 := idx_at S (i - 1) (by omega)
          rw [← hsub] at hix2
          obtain ⟨d, hd⟩ : ∃ d, d = (nums S).getD (i - 1) 0 := ⟨_, rfl⟩
          rw [← hd] at hix2
          clear hsub
          by_cases h13 : d = 13
          · subst h13
            have hto : toR (nums S) p i = i - 1 := by unfold toR; rw [if_pos ⟨hpi2, hd.symm⟩]
            clear hd
            by_cases hlong : m < i - 1 - p
            · have hall : allR m (nums S) fin = (st.recs, 10, 0) := by
                have := HSC.out.long (by omega) HC.out.symm (by rw [HP.out, hto]; exact hlong)
                unfold allR
                rw [this]
                rfl
              have HALL := Lib.hid hall
              clear hall hto
              go_wp2
              go_ret3
              rw [HALL.out]
              exact ⟨_, rfl, by rw [HQ.out]; exact HOWN.out, HB.out⟩
            · have hline := HSC.out.line (by omega) HC.out.symm (by rw [HP.out, hto]; omega)
              rw [HP.out, hto] at hline
              have HL := Lib.hid hline
              obtain ⟨P', pc', w2, happ, hown2, hb2⟩ := pushX P q pc st.recs S p (i - 1) HOWN.out (by omega) HB.out HQ.out
              have HA := Lib.hid happ
              have HO := Lib.hid hown2
              have HB2 := Lib.hid hb2
              clear happ hown2 hb2 hline hto
              go_wp2_with (at_builtin; refine wpList_append_run rfl _ _ 23 rfl rfl _ _ _ _ rfl rfl HA.out ?_)
              exact ⟨⟨_, i + 1, i + 1, q + 1, pc', P', rfl, by go_num, by go_num, by omega, by omega, by omega, Lib.hid (by simp [HQ.out]), Lib.hid rfl, HL, HO, HB2⟩, by simp [intOf]; omega⟩
          · have hto : toR (nums S) p i = i := by unfold toR; rw [if_neg (fun h => h13 (hd.trans h.2))]
            clear hd
            have hd13 : (d == 13) = false := by simpa using h13
            by_cases hlong : m < i - p
            · have hall : allR m (nums S) fin = (st.recs, 10, 0) := by
                have := HSC.out.long (by omega) HC.out.symm (by rw [HP.out, hto]; exact hlong)
                unfold allR
                rw [this]
                rfl
              have HALL := Lib.hid hall
              clear hall hto
              go_wp2
              go_ret3
              rw [HALL.out]
              exact ⟨_, rfl, by rw [HQ.out]; exact HOWN.out, HB.out⟩
            · have hline := HSC.out.line (by omega) HC.out.symm (by rw [HP.out, hto]; omega)
              rw [HP.out, hto] at hline
              have HL := Lib.hid hline
              obtain ⟨P', pc', w2, happ, hown2, hb2⟩ := pushX P q pc st.recs S p (i) HOWN.out (by omega) HB.out HQ.out
              have HA := Lib.hid happ
              have HO := Lib.hid hown2
              have HB2 := Lib.hid hb2
              clear happ hown2 hb2 hline hto
              go_wp2_with (at_builtin; refine wpList_append_run rfl _ _ 23 rfl rfl _ _ _ _ rfl rfl HA.out ?_)
              exact ⟨⟨_, i + 1, i + 1, q + 1, pc', P', rfl, by go_num, by go_num, by omega, by omega, by omega, Lib.hid (by simp [HQ.out]), Lib.hid rfl, HL, HO, HB2⟩, by simp [intOf]; omega⟩
        · have hto : toR (nums S) p i = i := by unfold toR; rw [if_neg (fun h => hpi2 h.1)]
          have hlong : ¬ m < i - p := by omega
          have hline := HSC.out.line (by omega) HC.out.symm (by rw [HP.out, hto]; omega)
          rw [HP.out, hto] at hline
          have HL := Lib.hid hline
          obtain ⟨P', pc', w2, happ, hown2, hb2⟩ := pushX P q pc st.recs S p (i) HOWN.out (by omega) HB.out HQ.out
          have HA := Lib.hid happ
          have HO := Lib.hid hown2
          have HB2 := Lib.hid hb2
          clear happ hown2 hb2 hline hto
          go_wp2_with (at_builtin; refine wpList_append_run rfl _ _ 23 rfl rfl _ _ _ _ rfl rfl HA.out ?_)
          exact ⟨⟨_, i + 1, i + 1, q + 1, pc', P', rfl, by go_num, by go_num, by omega, by omega, by omega, Lib.hid (by simp [HQ.out]), Lib.hid rfl, HL, HO, HB2⟩, by simp [intOf]; omega⟩
      · have hoth := HSC.out.other (by omega) (by rw [← HC.out]; exact h10)
        have HN := Lib.hid hoth
        clear hoth
        go_wp2
        exact ⟨⟨⟨st.recs, st.pos, st.cur ++ [(nums S).getD i 0], false⟩, i + 1, p, q, pc, P, rfl, rfl, by go_num, by omega, by omega, by omega, Lib.hid HQ.out, Lib.hid HP.out, HN, HOWN, HB⟩, by simp [intOf]; omega⟩
    · have hi2 : i = S.size := by omega
      subst hi2
      have hw : scanR m (nums S) scan0 = st := by
        have := HSC.out
        rw [← hnl] at this
        exact this.whole
      have hover : st.over = false := HSC.out.2.1
      have hcl : st.cur.length = S.size - p := by rw [HSC.out.cur_length, HP.out]
      have hcur : st.cur = ((nums S).drop p).take (S.size - p) := by
        have := HSC.out.2.2.2.2.1
        rw [this, HP.out, List.take_of_length_le (by omega), List.take_of_length_le (by rw [List.length_drop]; omega)]
      cases fin with
      | false =>
        by_cases hA : m + 1 < S.size - p
        · have hall : allR m (nums S) false = (st.recs, 10, 0) := by
            unfold allR
            simp only [hw, hover, hcl]
            rw [if_neg (by decide), if_neg (by simp)]
            rw [if_pos (.inl hA)]
          have HALL := Lib.hid hall
          clear hall
          go_wp2
          go_ret3
          rw [HALL.out]
          exact ⟨_, rfl, by rw [HQ.out]; exact HOWN.out, HB.out⟩
        · by_cases hE : S.size - p = m + 1
          · have hsub : ((S.size : Int) - 1) = ((S.size - 1 : Nat) : Int) := by omega
            have hix2 := idx_at S (S.size - 1) (by omega)
            rw [← hsub] at hix2
            obtain ⟨d, hd⟩ : ∃ d, d = (nums S).getD (S.size - 1) 0 := ⟨_, rfl⟩
            rw [← hd] at hix2
            clear hsub
            have hq : (((S.size : Int) - (p : Int)) == ((m : Int) + 1)) = true := by simp; omega
            by_cases h13 : d = 13
            · subst h13
              have hall : allR m (nums S) false = (st.recs, 0, S.size - p) := by
                unfold allR
                simp only [hw, hover, hcl]
                rw [if_neg (by decide), if_neg (by simp)]
                rw [if_neg (by rw [hnl, ← hd]; omega)]
              have HALL := Lib.hid hall
              clear hall
              clear hd
              go_wp2
              go_ret3
              rw [HALL.out]
              exact ⟨.slice P q pc, by rw [show ((S.size - p : Nat) : Int) = (S.size : Int) - (p : Int) by omega]; rfl, by rw [HQ.out]; exact HOWN.out, HB.out⟩
            · have hd13 : (d != 13) = true := by simpa using h13
              have hall : allR m (nums S) false = (st.recs, 10, 0) := by
                unfold allR
                simp only [hw, hover, hcl]
                rw [if_neg (by decide), if_neg (by simp)]
                rw [if_pos (.inr ⟨hE, by rw [hnl, ← hd]; exact h13⟩)]
              have HALL := Lib.hid hall
              clear hall
              clear hd
              go_wp2
              go_ret3
              rw [HALL.out]
              exact ⟨_, rfl, by rw [HQ.out]; exact HOWN.out, HB.out⟩
          · have hq : (((S.size : Int) - (p : Int)) == ((m : Int) + 1)) = false := by simp; omega
            have hall : allR m (nums S) false = (st.recs, 0, S.size - p) := by
              unfold allR
              simp only [hw, hover, hcl]
              rw [if_neg (by decide), if_neg (by simp)]
              rw [if_neg (by omega)]
            have HALL := Lib.hid hall
            clear hall
            go_wp2
            go_ret3
            rw [HALL.out]
            exact ⟨.slice P q pc, by rw [show ((S.size - p : Nat) : Int) = (S.size : Int) - (p : Int) by omega]; rfl, by rw [HQ.out]; exact HOWN.out, HB.out⟩
      | true =>
        by_cases h0 : 0 < S.size - p
        · by_cases hlong : m < S.size - p
          · have hall : allR m (nums S) true = (st.recs, 10, 0) := by
              unfold allR
              simp only [hw, hover, hcl]
              rw [if_neg (by decide), if_pos (by simp; omega), if_pos hlong]
            have HALL := Lib.hid hall
            clear hall
            go_wp2
            go_ret3
            rw [HALL.out]
            exact ⟨_, rfl, by rw [HQ.out]; exact HOWN.out, HB.out⟩
          · have hall : allR m (nums S) true = (st.recs ++ [⟨st.recs.length, p, ((nums S).drop p).take (S.size - p)⟩], 0, 0) := by
              unfold allR
              simp only [hw, hover, hcl]
              rw [if_neg (by decide), if_pos (by simp; omega), if_neg hlong, HP.out, hcur]
            have HALL := Lib.hid hall
            clear hall
            obtain ⟨P', pc', w2, happ, hown2, hb2⟩ := pushX P q pc st.recs S p S.size HOWN.out (by omega) HB.out HQ.out
            have HA := Lib.hid happ
            have HO := Lib.hid hown2
            have HB2 := Lib.hid hb2
            clear happ hown2 hb2
            go_wp2_with (at_builtin; refine wpList_append_run rfl _ _ 23 rfl rfl _ _ _ _ rfl rfl HA.out ?_)
            go_ret3
            rw [HALL.out]
            exact ⟨.slice P' (q + 1) pc', rfl, by rw [show (st.recs ++ [(⟨st.recs.length, p, ((nums S).drop p).take (S.size - p)⟩ : RecL)]).length = q + 1 by rw [List.length_append, HQ.out]; rfl]; exact HO.out, HB2.out⟩
        · have hall : allR m (nums S) true = (st.recs, 0, S.size - p) := by
            unfold allR
            simp only [hw, hover, hcl]
            rw [if_neg (by decide), if_neg (by simp; omega), if_neg (by omega)]
          have HALL := Lib.hid hall
          clear hall
          go_wp2
          go_ret3
          rw [HALL.out]
          exact ⟨.slice P q pc, by rw [show ((S.size - p : Nat) : Int) = (S.size : Int) - (p : Int) by omega]; rfl, by rw [HQ.out]; exact HOWN.out, HB.out⟩
end Go.Proofs.Ytnfekbmmnenbfaa
