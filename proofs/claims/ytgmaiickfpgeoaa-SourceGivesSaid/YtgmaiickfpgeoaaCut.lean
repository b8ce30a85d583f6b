/- The contract of cuts.Cut. -/
import Derived.Test.YtgmaiickfpgeoaaCutA
namespace Go.Proofs.Ytgmaiickfpgeoaa
open Go Go.RowKit
set_option linter.unusedVariables false

set_option maxHeartbeats 1000000 in
theorem cut_any (zs xs : List Int) (A D : Option Addr) (n c m d : Nat) (W : World) (hr : RowI .u8 W A n xs) (hn : n ≤ 1000) (hnc : n ≤ c) (hcm : c ≤ maxLen) (hnil : A = none → n = 0 ∧ c = 0) (hz : RowI .i64 W D m zs) (hm : m ≤ 1000) :
    Calls Try.prog 19 #[.slice A n c, .slice D m d] W fun e w' => ∃ V vs, e = .returned V ∧ w'.ownsRow W.heap.size 22 1 V (cutL zs xs 0).length vs ∧ Pieces w' W.heap.size vs (cutL zs xs 0) ∧ Below W.heap.size W w' := by
  have HR := Lib.hid hr
  have HZ := Lib.hid hz; clear hz
  have hlen := hr.1
  have HN := Lib.hid hnil; clear hnil
  have HLEN := Lib.hid hlen; clear hlen
  clear hr
  go_enter Try.func19, Try.ntmps19
  go_wp2_with fail
  go_loopw [0, 5] (fun vb vp wr => ∃ (A' : Option Addr) (k c' : Nat) (rest : List Int) (P : Option Addr) (q pc : Nat) (vs : List Value) (acc : List (List Int)), vb = .slice A' k c' ∧ vp = .slice P q pc ∧ q + k ≤ 1000 ∧ k ≤ c' ∧ c' ≤ maxLen ∧
    Hid (RowI .u8 W A' k rest) ∧ Hid (A' = none → k = 0 ∧ c' = 0) ∧ Hid (acc.length = q) ∧ Hid (acc ++ cutL zs rest q = cutL zs xs 0) ∧ Hid (wr.ownsRow W.heap.size 22 1 (.slice P q pc) q vs) ∧ Hid (Pieces wr W.heap.size vs acc) ∧ Below W.heap.size W wr) (fun vb _ _ => (match vb with | .slice _ k _ => k | _ => 0))
  case atStart => exact ⟨A, n, c, xs, none, 0, 0, [], [], rfl, rfl, by omega, hnc, hcm, HR, HN, Lib.hid rfl, Lib.hid rfl, Lib.hid (World.ownsRow_nil _ _ _ _), Lib.hid Pieces.nil, Below.refl _ _⟩
  case round =>
    obtain ⟨A', k, c', rest, P, q, pc, vs, acc, rfl, rfl, hqk, hkc, hcm', HRI, HNI, HACC, HCUT, HOWN, HPC, hb⟩ := hrel
    by_cases hk : 0 < k
    · have hsz := csize_any zs D m d q k wr (HZ.out.below hb (Nat.le_refl _)) hm (by omega)
      have hrl := HRI.out.1
      have hst := stepN_int zs q k hk
      have hle := stepN_le zs q k hk
      have hstep := cutL_step zs rest q (by omega)
      rw [hrl] at hstep
      obtain ⟨s, hs⟩ : ∃ s, s = stepN zs q k := ⟨_, rfl⟩
      obtain ⟨z, hz⟩ : ∃ z, z = cszI zs q k := ⟨_, rfl⟩
      rw [← hs] at hst hle hstep
      rw [← hz] at hsz hst
      obtain ⟨hs1, hsk⟩ := hle
      have HSZ := Lib.hid hsz; clear hsz
      obtain ⟨A2, hsf, hrf, _, hnf⟩ := slice_from A' k c' s hsk
      have hsu := slice_upto A' k c' s (by omega)
      have HRF := Lib.hid hrf; clear hrf
      have HNF := Lib.hid hnf; clear hnf
      have HSTEP := Lib.hid hstep; clear hstep
      have HRL := Lib.hid hrl; clear hrl
      have HS := Lib.hid hs; clear hs
      have HZZ := Lib.hid hz; clear hz
      have hcl := clone_any A' s c' (rest.take s) wr ((HRI.out.to (m := s) hsk).below hb (Nat.le_refl _)) (fun h => by have := (HNI.out h).1; omega) (by omega)
      have HCL := Lib.hid hcl; clear hcl
      have hmin : min z (k : Int) = (s : Int) := hst.symm
      clear hst
      have hgt : decide ((0 : Int) < (k : Int)) = true := by simp; omega
      go_wp2_with fail
      refine HSZ.out.mono ?_; rintro e w1 ⟨rfl, rfl⟩
      go_wp2_with fail
      refine HCL.out.mono ?_; rintro e w2 ⟨v, rfl, hown, hb2⟩
      have hb02 : Below W.heap.size W w2 := hb.trans (Below.mono hb2 hb.size)
      have hp2 := HPC.out.kept hb2
      have hl2 : (rest.take s).length = s := by rw [List.length_take, HRL.out]; omega
      obtain ⟨D1, d1, rfl, _, _, _, _⟩ := own_cells hown
      have ho2 := own_kept HOWN.out hb2
      obtain ⟨V', w3, happ, hown3, hg3⟩ := push_run 46 22 _ 24 Try.underlying46 info_bs rfl w2 W.heap.size _ q vs ho2 (.slice D1 s d1) rfl (by omega) (by unfold maxLen; omega) hb02.size
      have hpc3 : Pieces w3 W.heap.size (vs ++ [.slice D1 s d1]) (acc ++ [rest.take s]) := by
        have h1 : Pieces w2 W.heap.size (vs ++ [.slice D1 s d1]) (acc ++ [rest.take s]) := hp2.push (by rw [hl2]; exact own_mono1 hown hb.size)
        exact (h1.kept ((Below.refl _ _).alloc (Nat.le_refl _) _)).other (own_alloc ho2 _) (by decide) hg3
      have hb3 : Below W.heap.size W w3 := (hb02.alloc hb02.size _).grown hg3 (by have := hb02.size; simp; omega) (by intro k hk; exact (ho2.lt k hk).1)
      obtain ⟨P', pc', rfl, _, _, _, _⟩ := own_cells hown3
      have HA := Lib.hid happ; clear happ
      have HO := Lib.hid hown3; clear hown3
      have HP := Lib.hid hpc3; clear hpc3
      clear hown hb2 hp2 ho2 hg3 hl2 hb02
      go_wp2_with (at_builtin; refine wpList_append_run rfl _ _ 46 rfl rfl _ _ _ _ rfl rfl HA.out ?_)
      refine ⟨⟨A2, k - s, c' - s, rest.drop s, P', q + 1, pc', _, acc ++ [rest.take s], rfl, rfl, by omega, by omega, by omega, Lib.hid (HRF.out W rest HRI.out hkc), Lib.hid (fun h => by have := (HNI.out (HNF.out h)).1; omega), Lib.hid (by simp [HACC.out]), Lib.hid ?_, HO, HP, hb3⟩, ?_⟩
      · rw [List.append_assoc, ← HCUT.out, HSTEP.out]; rfl
      · show k - s < k
        omega
    · have hgt : decide ((0 : Int) < (k : Int)) = false := by simp; omega
      go_wp2
      go_ret
      have hr0 : rest = [] := List.eq_nil_of_length_eq_zero (by have := HRI.out.1; omega)
      have hcut := HCUT.out
      rw [hr0, cutL_nil, List.append_nil] at hcut
      rw [← hcut, HACC.out]
      exact ⟨_, vs, rfl, HOWN.out, HPC.out, hb⟩
end Go.Proofs.Ytgmaiickfpgeoaa
