/- DecodeBegins: what is told of a beginning is a beginning of the text of the whole: the walk. -/
import Derived.Test.YtoojfjealncddaaDoorText
import Derived.Laws.IdiomStrings
namespace Go.Proofs.YtoojfjealncddaaDoor
open Go Go.RowKit
set_option linter.unusedVariables false

theorem kindI_stays {l : List Int} (r : List Int) (h : sureI l = true) : kindI (l ++ r) = kindI l := by
  unfold kindI
  rw [mark_stays l r h]
/-- What is told of a beginning is a beginning of the text of the whole. -/
theorem TellR.begins {k : Int} {xs ys out rest o2 : List Int} {k' : Int} (hb : ∀ c ∈ xs ++ ys, 0 ≤ c ∧ c < 256) (h : TellR k false xs k' out rest) (h' : TextR k (xs ++ ys) o2) (h0 : 0 ≤ k) (h3 : k ≤ 3) : ∃ z, o2 = out ++ z := by
  rcases h with ⟨_, _, _, _, h1, _⟩ | ⟨h1, h2, h4, h⟩ | ⟨h1, _, h⟩
  · exact ⟨o2, by rw [h1]; rfl⟩
  · have hs : sureI xs = true := by simpa using h2
    subst h4
    rcases h' with ⟨_, h'⟩ | ⟨h5, _⟩ | ⟨h5, _⟩
    · rw [kindI_stays ys hs, mark_stays xs ys hs, List.drop_append_of_le_length (by have := markI_bounds xs; omega)] at h'
      refine h.begins (kindI_or xs) (fun c hc => hb c ?_) h'
      rcases List.mem_append.1 hc with h | h
      · exact List.mem_append_left _ (List.mem_of_mem_drop h)
      · exact List.mem_append_right _ h
    · omega
    · omega
  · rcases h' with ⟨h5, _⟩ | ⟨h5, h'⟩ | ⟨h5, _⟩
    · exact absurd h5 h1
    · exact h.begins h5 hb h'
    · omega

theorem lawBegins_out (k : Int) (A B : Option Addr) (len cap len2 cap2 : Nat) (w : World) (hM : Marks w) (hl : len ≤ maxLen) (hl2 : len2 ≤ maxLen) (h : k < 0 ∨ 3 < k ∨ 100 < len ∨ 100 < len2) :
    Calls Tryd.prog 6 #[.int .i64 k, .slice A len cap, .slice B len2 cap2] w fun e w' => e = .returned (.bool true) ∧ Below w.heap.size w w' := by
  unfold maxLen at hl hl2
  have hcase : (decide (k < 0) = true) ∨ (decide (k < 0) = false ∧ decide (3 < k) = true) ∨ (decide (k < 0) = false ∧ decide (3 < k) = false ∧ decide ((100 : Int) < (len : Int)) = true) ∨
      (decide (k < 0) = false ∧ decide (3 < k) = false ∧ decide ((100 : Int) < (len : Int)) = false ∧ decide ((100 : Int) < (len2 : Int)) = true) := by
    simp; omega
  have HM := Lib.hid hM; clear hM
  clear h
  rcases hcase with d1 | ⟨d1, d2⟩ | ⟨d1, d2, d3⟩ | ⟨d1, d2, d3, d4⟩
  all_goals
    go_enter Tryd.func6, Tryd.ntmps6
    go_wp2_with fail
    refine (awake3_any _ HM.out).mono ?_; rintro e w1 ⟨rfl, hbel⟩
    have HM1 := Lib.hid (HM.out.below hbel (Nat.le_refl _))
    go_wp2_with fail
    refine (awake3_any _ HM1.out).mono ?_; rintro e w2 ⟨rfl, hbel2⟩
    go_wp2_with fail
    go_ret
    exact ⟨rfl, hbel.trans (Below.mono hbel2 hbel.size)⟩

theorem str_prefix (out z : List Int) : (strOfNums (out ++ z)).extract 0 (strOfNums out).size = strOfNums out := by
  apply ByteArray.ext
  apply Array.toList_inj.1
  rw [ByteArray.data_extract, Array.toList_extract, strOfNums_data, strOfNums_data]
  simp [strOfNums_size]

set_option maxHeartbeats 4000000 in
theorem lawBegins_in (k : Int) (A B : Option Addr) (len cap len2 cap2 : Nat) (l l2 : List Int) (W : World) (hM : Marks W) (hk0 : 0 ≤ k) (hk3 : k ≤ 3) (hl : len ≤ 100) (hl2 : len2 ≤ 100)
    (hr : RowI .u8 W A len l) (hnil : A = none → len = 0 ∧ cap = 0) (hby : ∀ c ∈ l, 0 ≤ c ∧ c < 256) (hr2 : RowI .u8 W B len2 l2) (hnil2 : B = none → len2 = 0 ∧ cap2 = 0) (hby2 : ∀ c ∈ l2, 0 ≤ c ∧ c < 256) :
    Calls Tryd.prog 6 #[.int .i64 k, .slice A len cap, .slice B len2 cap2] W fun e w' => e = .returned (.bool true) ∧ Below W.heap.size W w' := by
  have d1 : decide (k < 0) = false := by simp; omega
  have d2 : decide (3 < k) = false := by simp; omega
  have d3 : decide ((100 : Int) < (len : Int)) = false := by simp; omega
  have d4 : decide ((100 : Int) < (len2 : Int)) = false := by simp; omega
  have haw := awake3_any W hM
  have HAW := Lib.hid haw; clear haw
  have HM := Lib.hid hM; clear hM
  have HR := Lib.hid hr; clear hr
  have HR2 := Lib.hid hr2; clear hr2
  have HNIL := Lib.hid hnil; clear hnil
  have HNIL2 := Lib.hid hnil2; clear hnil2
  have hba : ∀ c ∈ l ++ l2, 0 ≤ c ∧ c < 256 := by
    intro c hc
    rcases List.mem_append.1 hc with h | h
    · exact hby c h
    · exact hby2 c h
  have HBY := Lib.hid hby; clear hby hby2
  have HBA := Lib.hid hba; clear hba
  have HLL := Lib.hid HR.out.1
  have HLL2 := Lib.hid HR2.out.1
  have HK0 := Lib.hid hk0; clear hk0
  have HK3 := Lib.hid hk3; clear hk3
  go_enter Tryd.func6, Tryd.ntmps6
  go_wp2_with fail
  refine HAW.out.mono ?_; rintro e w1 ⟨rfl, hb1⟩
  have hn := new_ok k w1 HK0.out HK3.out
  have HN := Lib.hid hn; clear hn
  go_wp2_with fail
  refine HN.out.mono ?_; rintro e w2 ⟨rfl, hd2, hb2⟩
  have hg0 : 0 < w1.heap.size := (HM.out.below hb1 (Nat.le_refl _)).1
  have hW2 : Below W.heap.size W w2 := hb1.trans (Below.mono hb2 hb1.size)
  have hw := write_any w1.heap.size k [] A len cap l w2 (HM.out.below hW2 (Nat.le_refl _)) hg0 hd2 (HR.out.below hW2 (Nat.le_refl _)) HNIL.out HBY.out (by simp; omega)
  have HW := Lib.hid hw; clear hw
  clear hd2
  go_wp2_with fail
  refine HW.out.mono ?_; rintro e w3 ⟨k', out, r3, rfl, ht, hd3, hb3⟩
  rw [List.nil_append] at ht
  have hW3 : Below W.heap.size W w3 := hW2.trans (Below.mono hb3 hb1.size)
  have hol := (ht.size HK0.out HK3.out).1
  have HT := Lib.hid ht; clear ht
  clear hd3 hb3
  -- the whole, put together
  obtain ⟨v4, w4, happ4, hown4, hgrow4⟩ := app_run .u8 22 5 1 Tryd.underlying22 info_u8 (w3.alloc (.cells #[] 5)) w3.heap.size (.slice (some ⟨w3.heap.size, 0, none⟩) 0 0) 0 [] (World.ownsRow_made w3 #[] 0 (Nat.le_refl _) (Nat.zero_le _) rfl) A len cap l ((HR.out.below hW3 (Nat.le_refl _)).alloc _) HNIL.out (by omega) (by unfold maxLen; omega) (by simp)
  rw [Nat.zero_add, List.nil_append] at hown4
  have hb4 : Below w3.heap.size w3 w4 := ((Below.refl _ w3).alloc (Nat.le_refl _) _).grown hgrow4 (by simp) (by intro j hj; simp [Value.ownBlock] at hj; omega)
  have hW4 : Below W.heap.size W w4 := hW3.trans (Below.mono hb4 hW3.size)
  obtain ⟨v5, w5, happ5, hown5, hgrow5⟩ := app_run .u8 22 5 1 Tryd.underlying22 info_u8 w4 w3.heap.size v4 len l hown4 B len2 cap2 l2 (HR2.out.below hW4 (Nat.le_refl _)) HNIL2.out (by omega) (by unfold maxLen; omega) hb4.size
  have hb5 : Below w3.heap.size w3 w5 := hb4.grown hgrow5 hb4.size (by intro j hj; exact (hown4.lt j hj).1)
  have hW5 : Below W.heap.size W w5 := hW3.trans (Below.mono hb5 hW3.size)
  have hlen5 : (l ++ l2).length = len + len2 := by rw [List.length_append, HLL.out, HLL2.out]
  rw [← hlen5] at hown5
  obtain ⟨A5, c5, rfl, hr5, _, hnil5, hcap5, hcm5⟩ := own_shape hown5
  have htx := text_any k A5 (l ++ l2).length c5 (l ++ l2) w5 (HM.out.below hW5 (Nat.le_refl _)) hr5 hnil5 HBA.out (by omega)
  obtain ⟨n5, hn5⟩ : ∃ n, n = (l ++ l2).length := ⟨_, rfl⟩
  rw [← hn5] at htx happ5
  have HAPP4 := Lib.hid happ4; clear happ4
  have HAPP5 := Lib.hid happ5; clear happ5
  have HTX := Lib.hid htx; clear htx
  have HN5 := Lib.hid hn5; clear hn5
  have HLEN5 := Lib.hid hlen5; clear hlen5
  clear hown4 hgrow4 hb4 hW4 hown5 hgrow5 hb5 hr5 hnil5 hcap5 hcm5
  go_wp2_with (at_builtin; first
    | refine wpList_append_run rfl _ _ 22 rfl rfl _ _ _ _ rfl rfl HAPP4.out ?_
    | refine wpList_append_run rfl _ _ 22 rfl rfl _ _ _ _ rfl rfl HAPP5.out ?_)
  refine HTX.out.mono ?_; rintro e w6 ⟨o2, rfl, ht6, hb6⟩
  have hW6 : Below W.heap.size W w6 := hW5.trans (Below.mono hb6 hW5.size)
  have hz := HT.out.begins HBA.out ht6 HK0.out HK3.out
  have hol2 := ht6.size
  obtain ⟨z, rfl⟩ := hz
  have hex := str_prefix out z
  have hsz : (strOfNums out).size ≤ (strOfNums (out ++ z)).size := by rw [strOfNums_size, strOfNums_size, List.length_append]; omega
  have hbig : (strOfNums (out ++ z)).size ≤ 1000000 := by rw [strOfNums_size]; have := HLEN5.out; omega
  obtain ⟨S, hS⟩ : ∃ S, S = strOfNums out := ⟨_, rfl⟩
  obtain ⟨T, hT⟩ : ∃ T, T = strOfNums (out ++ z) := ⟨_, rfl⟩
  rw [← hS, ← hT] at hex hsz
  rw [← hT] at hbig
  rw [← hS, ← hT]
  have hle : decide ((S.size : Int) ≤ (T.size : Int)) = true := by simp; omega
  have hle1 : (S.size : Int) ≤ (T.size : Int) := by omega
  clear ht6 hb6 hol hol2 hS hT
  go_wp2_with fail
  go_ret
  exact ⟨rfl, hW6⟩

theorem lawBegins (k : Int) (A : Option Addr) (len cap : Nat) (zs : List Int) (B : Option Addr) (len2 cap2 : Nat) (zs2 : List Int) (W : World) (hM : Marks W)
    (h : (A = none ∧ len = 0 ∧ cap = 0 ∧ zs = []) ∨
      ∃ x, A = some x ∧ len ≤ cap ∧ cap ≤ maxLen ∧ zs.length = cap ∧ (∀ i, i < zs.length → W.cell? (x.add i) = some (.int .u8 (zs.getD i 0))) ∧ ∀ n ∈ zs, (Lit.int .u8 n).wf = true)
    (h' : (B = none ∧ len2 = 0 ∧ cap2 = 0 ∧ zs2 = []) ∨
      ∃ x, B = some x ∧ len2 ≤ cap2 ∧ cap2 ≤ maxLen ∧ zs2.length = cap2 ∧ (∀ i, i < zs2.length → W.cell? (x.add i) = some (.int .u8 (zs2.getD i 0))) ∧ ∀ n ∈ zs2, (Lit.int .u8 n).wf = true) :
    Calls Tryd.prog 6 #[.int .i64 k, .slice A len cap, .slice B len2 cap2] W fun e w' => e = .returned (.bool true) ∧ Below W.heap.size W w' := by
  obtain ⟨hr, hcap, hcm, hnil, hwf⟩ := rowI_of_row h
  obtain ⟨hr', hcap', hcm', hnil', hwf'⟩ := rowI_of_row h'
  by_cases ho : k < 0 ∨ 3 < k ∨ 100 < len ∨ 100 < len2
  · exact lawBegins_out k A B len cap len2 cap2 W hM (Nat.le_trans hcap hcm) (Nat.le_trans hcap' hcm') ho
  · exact lawBegins_in k A B len cap len2 cap2 _ _ W hM (by omega) (by omega) (by omega) (by omega) hr hnil (fun c hc => byte_of_wf (hwf c hc)) hr' hnil' (fun c hc => byte_of_wf (hwf' c hc))
end Go.Proofs.YtoojfjealncddaaDoor
