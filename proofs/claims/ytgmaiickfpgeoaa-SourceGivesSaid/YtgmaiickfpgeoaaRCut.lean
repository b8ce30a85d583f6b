/- The document's own Cut. -/
import Derived.Test.YtgmaiickfpgeoaaOwn
import Derived.Test.YtgmaiickfpgeoaaCutS
import Derived.Test.YtgmaiickfpgeoaaClone
import Derived.Lib.MinMax
namespace Go.Proofs.Ytgmaiickfpgeoaa
open Go Go.RowKit
set_option linter.unusedVariables false

theorem rcsize_any (x : Int) (w : World) : Calls Try.prog 26 #[.int .i64 x] w fun e w' => e = .returned (.int .i64 (min (max x 1) 4096)) ∧ w = w' := by
  by_cases h1 : x < 1
  · rw [show min (max x 1) 4096 = 1 by omega]
    go_enter Try.func26, Try.ntmps26
    go_wp2
    go_ret
    exact ⟨rfl, rfl⟩
  · by_cases h2 : 4096 < x
    · rw [show min (max x 1) 4096 = 4096 by omega]
      go_enter Try.func26, Try.ntmps26
      go_wp2
      go_ret
      exact ⟨rfl, rfl⟩
    · rw [show min (max x 1) 4096 = x by omega]
      go_enter Try.func26, Try.ntmps26
      go_wp2
      go_ret
      exact ⟨rfl, rfl⟩

set_option maxHeartbeats 2000000 in
theorem rcut_any (zs xs : List Int) (D : Option Addr) (m d : Nat) (W : World) (hn : xs.length ≤ 1000) (hz : RowI .i64 W D m zs) (hm : m ≤ 1000) :
    Calls Try.prog 20 #[.string (strOfNums xs), .slice D m d] W fun e w' => ∃ V, e = .returned V ∧ w'.ownsRow W.heap.size 9 1 V (cutL zs xs 0).length (((cutL zs xs 0).map strOfNums).map .string) ∧ Below W.heap.size W w' := by
  have HZ := Lib.hid hz; clear hz
  go_enter Try.func20, Try.ntmps20
  go_wp2_with fail
  go_loopw [0, 5, 6] (fun vb vp vi wr => ∃ (S : ByteArray) (k : Nat) (rest : List Int) (P : Option Addr) (q pc : Nat) (acc : List (List Int)), vb = .string S ∧ vp = .slice P q pc ∧ vi = .int .i64 (q : Int) ∧ q + k ≤ 1000 ∧ S.size = k ∧
    Hid (S = strOfNums rest) ∧ Hid (rest.length = k) ∧ Hid (acc.length = q) ∧ Hid (acc ++ cutL zs rest q = cutL zs xs 0) ∧ Hid (wr.ownsRow W.heap.size 9 1 (.slice P q pc) q ((acc.map strOfNums).map .string)) ∧ Below W.heap.size W wr) (fun vb _ _ _ => (match vb with | .string S => S.size | _ => 0))
  case atStart => exact ⟨_, _, xs, none, 0, 0, [], rfl, rfl, rfl, by omega, size_strOfNums xs, Lib.hid rfl, Lib.hid rfl, Lib.hid rfl, Lib.hid rfl, Lib.hid (World.ownsRow_nil _ _ _ _), Below.refl _ _⟩
  case round =>
    obtain ⟨S, k, rest, P, q, pc, acc, rfl, rfl, rfl, hqk, hSk, HSS, HRL, HACC, HCUT, HOWN, hb⟩ := hrel
    by_cases hk : 0 < k
    · have hst := stepN_int zs q k hk
      have hle := stepN_le zs q k hk
      have hstep := cutL_step zs rest q (by have := HRL.out; omega)
      rw [HRL.out] at hstep
      obtain ⟨s, hs⟩ : ∃ s, s = stepN zs q k := ⟨_, rfl⟩
      rw [← hs] at hst hle hstep
      obtain ⟨hs1, hsk⟩ := hle
      have hcz : 0 < m → cszI zs q k = min (max (zs.getD (q % m) 0) 1) 4096 := fun h0 => by unfold cszI; rw [if_neg (by have := HZ.out.1; omega), HZ.out.1]
      have hcz0 : m = 0 → cszI zs q k = (k : Int) := fun h0 => by unfold cszI; rw [if_pos (by have := HZ.out.1; omega)]
      have HSTEP := Lib.hid hstep; clear hstep
      have HS := Lib.hid hs; clear hs
      obtain ⟨V', w3, happ, hown3, hg3⟩ := push_run 39 9 _ 16 Try.underlying39 info_str rfl wr W.heap.size _ q _ HOWN.out (.string (S.extract 0 s)) rfl (by omega) (by unfold maxLen; omega) hb.size
      have hb3 : Below W.heap.size W w3 := (hb.alloc hb.size _).grown hg3 (by have := hb.size; simp; omega) (by intro k hk; exact (HOWN.out.lt k hk).1)
      obtain ⟨P', pc', rfl, _, _, _, _⟩ := own_cells hown3
      have hown4 : w3.ownsRow W.heap.size 9 1 (.slice P' (q + 1) pc') (q + 1) (((acc ++ [rest.take s]).map strOfNums).map .string) := by
        rw [HSS.out, strOfNums_take] at hown3
        simpa using hown3
      have HA := Lib.hid happ; clear happ
      have HO := Lib.hid hown4; clear hown4
      clear hown3 hg3
      have hpos : decide ((0 : Int) < (k : Int)) = true := by simp; omega
      have hex : (S.extract s S.size).size = k - s := by rw [HSS.out, strOfNums_drop, size_strOfNums, List.length_drop, HRL.out]
      have hdr : S.extract s S.size = strOfNums (rest.drop s) := by rw [HSS.out, strOfNums_drop]
      have hcc : (acc ++ [rest.take s]) ++ cutL zs (rest.drop s) (q + 1) = cutL zs xs 0 := by rw [List.append_assoc, ← HCUT.out, HSTEP.out]; rfl
      rw [hSk] at hex hdr
      have HEX := Lib.hid hex; clear hex
      have HDR := Lib.hid hdr; clear hdr
      have HCC := Lib.hid hcc; clear hcc
      rcases Nat.eq_zero_or_pos m with hm0 | hm0
      · have hsk2 : s = k := by have := hcz0 hm0; omega
        clear hcz hcz0 hst
        subst hsk2
        subst hm0
        go_wp2_with (at_builtin; refine wpList_append_run rfl _ _ 39 rfl rfl _ _ _ _ rfl rfl HA.out ?_)
        have hem : S.extract s s = ByteArray.empty := by simp
        have hex2 := HEX.out
        have hdr2 := HDR.out
        rw [hem] at hex2 hdr2
        refine ⟨⟨_, s - s, rest.drop s, P', q + 1, pc', acc ++ [rest.take s], rfl, rfl, by go_num, by omega, hex2, Lib.hid hdr2, Lib.hid (by rw [List.length_drop, HRL.out]), Lib.hid (by simp [HACC.out]), HCC, HO, hb3⟩, ?_⟩
        show ByteArray.size _ < ByteArray.size _
        rw [hex2, hSk]
        omega
      · have hcz := hcz hm0
        obtain ⟨b, o, rfl, hbl, hc⟩ := (HZ.out.below hb (Nat.le_refl _)).2 hm0
        have hcell := hc (q % m) (Nat.mod_lt _ hm0)
        have hne : decide ((0 : Int) < (m : Int)) = true := by simp; omega
        have hrem : ((q : Int) % (m : Int)) = ((q % m : Nat) : Int) := by simp
        have hj2 : q % m < m := Nat.mod_lt _ hm0
        obtain ⟨x, hx⟩ : ∃ x, x = zs.getD (q % m) 0 := ⟨_, rfl⟩
        obtain ⟨j, hj⟩ : ∃ j, j = q % m := ⟨_, rfl⟩
        rw [← hx] at hcell hcz
        rw [← hj] at hcell hrem hj2
        clear hc hcz0
        have HX := Lib.hid hx; clear hx
        have HJ := Lib.hid hj; clear hj
        rw [hcz] at hst
        have hsz := fun w => rcsize_any x w
        obtain ⟨z, hzz⟩ : ∃ z, z = min (max x 1) 4096 := ⟨_, rfl⟩
        rw [← hzz] at hst hsz
        have HSZ := Lib.hid hsz; clear hsz
        have HZZ := Lib.hid hzz; clear hzz hcz
        by_cases hlt : z < (k : Int)
        · have hzs : z = (s : Int) := by omega
          clear hst
          subst hzs
          go_wp2_with (first | (at_builtin; refine wpList_append_run rfl _ _ 39 rfl rfl _ _ _ _ rfl rfl HA.out ?_) | (go_at_call 26; refine (HSZ.out _).mono ?_; rintro e w' ⟨rfl, rfl⟩))
          refine ⟨⟨_, k - s, rest.drop s, P', q + 1, pc', acc ++ [rest.take s], rfl, rfl, by go_num, by omega, HEX.out, Lib.hid HDR.out, Lib.hid (by rw [List.length_drop, HRL.out]), Lib.hid (by simp [HACC.out]), HCC, HO, hb3⟩, ?_⟩
          show ByteArray.size _ < ByteArray.size _
          rw [HEX.out, hSk]
          omega
        · have hsk2 : s = k := by omega
          clear hst
          subst hsk2
          go_wp2_with (first | (at_builtin; refine wpList_append_run rfl _ _ 39 rfl rfl _ _ _ _ rfl rfl HA.out ?_) | (go_at_call 26; refine (HSZ.out _).mono ?_; rintro e w' ⟨rfl, rfl⟩))
          have hem : S.extract s s = ByteArray.empty := by simp
          have hex2 := HEX.out
          have hdr2 := HDR.out
          rw [hem] at hex2 hdr2
          refine ⟨⟨_, s - s, rest.drop s, P', q + 1, pc', acc ++ [rest.take s], rfl, rfl, by go_num, by omega, hex2, Lib.hid hdr2, Lib.hid (by rw [List.length_drop, HRL.out]), Lib.hid (by simp [HACC.out]), HCC, HO, hb3⟩, ?_⟩
          show ByteArray.size _ < ByteArray.size _
          rw [hex2, hSk]
          omega
    · have hpos : decide ((0 : Int) < (k : Int)) = false := by simp; omega
      go_wp2
      go_ret
      have hr0 : rest = [] := List.eq_nil_of_length_eq_zero (by have := HRL.out; omega)
      have hcut := HCUT.out
      rw [hr0, cutL_nil, List.append_nil] at hcut
      rw [← hcut, HACC.out]
      exact ⟨_, rfl, HOWN.out, hb⟩
end Go.Proofs.Ytgmaiickfpgeoaa
