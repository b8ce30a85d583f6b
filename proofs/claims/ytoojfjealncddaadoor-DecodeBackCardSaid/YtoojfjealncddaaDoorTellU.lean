/- tell: the text of what is settled, of units. -/
import Derived.Test.YtoojfjealncddaaDoorTell
namespace Go.Proofs.YtoojfjealncddaaDoor
open Go Go.RowKit
set_option linter.unusedVariables false

set_option maxHeartbeats 1000000 in
theorem tell_unit (g : Nat) (k : Int) (hk : k = 2 ∨ k = 3) (cl : Bool) (xs : List Int) (w : World) (hby : ∀ c ∈ xs, 0 ≤ c ∧ c < 256) (hx : xs.length ≤ 2000)
    (hset : Calls Tryd.prog 27 #[.pointer (some ⟨g, 0, none⟩)] w fun e w1 => e = .returned (.tuple #[]) ∧
      ∃ A n c, DecAt w1 g k (.slice A n c) cl ∧ RowI .u8 w1 A n xs ∧ Above (g + 1) A ∧ (A = none → n = 0 ∧ c = 0) ∧ n ≤ c ∧ c ≤ maxLen ∧ Below g w w1) :
    Calls Tryd.prog 25 #[.pointer (some ⟨g, 0, none⟩)] w fun e w' => ∃ out rest v', e = .returned (.string (strOfNums out)) ∧ Pour k cl xs out rest ∧
      DecAt w' g k v' cl ∧ w'.ownsRow (g + 1) 5 1 v' rest.length (rest.map (Value.int .u8)) ∧ Below g w w' := by
  have HS := Lib.hid hset; clear hset
  have HBY := Lib.hid hby; clear hby
  have hnext : ∀ (w : World) (A : Option Addr) (n c : Nat) (ys : List Int), DecAt w g k (.slice A n c) cl → RowI .u8 w A n ys → (∀ c ∈ ys, 0 ≤ c ∧ c < 256) → n ≤ c → c ≤ maxLen → n ≤ 2000 →
      Calls Tryd.prog 28 #[.pointer (some ⟨g, 0, none⟩)] w fun e w' => e = .returned (.tuple #[.int .i64 (stepI k cl ys).1, .int .i64 (stepI k cl ys).2]) ∧ Below w.heap.size w w' := by
    exact fun w A n c ys h1 h2 h3 h4 h5 h6 => unit_any g k hk A n c ys cl w h1 h2 h3 h4
  have HN := Lib.hid hnext; clear hnext
  have e0 : (k == 0) = false := by rw [beq_eq_false_iff_ne]; omega
  have e1 : (k == 1) = false := by rw [beq_eq_false_iff_ne]; omega
  have HK3 := Lib.hid (show k = 1 ∨ k = 2 ∨ k = 3 by omega); clear hk
  go_enter Tryd.func25, Tryd.ntmps25
  go_wp2_with fail
  refine HS.out.mono ?_; rintro e w1 ⟨rfl, A0, n0, c0, hd, hr, hab, hnil, hcap, hcm, hb⟩
  have d0 := hd.c0
  have hn1 := HN.out w1 A0 n0 c0 xs hd hr HBY.out hcap hcm (by have := hr.1; omega)
  have HN1 := Lib.hid hn1; clear hn1
  have HD := Lib.hid hd; clear hd
  have HR := Lib.hid hr; clear hr
  have hgl : g < w1.heap.size := HD.out.lt
  have hl0 := HR.out.1
  obtain ⟨r0, hr0⟩ : ∃ r, r = (stepI k cl xs).1 := ⟨_, rfl⟩
  obtain ⟨s0, hs0⟩ : ∃ r, r = (stepI k cl xs).2 := ⟨_, rfl⟩
  rw [← hr0, ← hs0] at HN1
  have HR0 := Lib.hid hr0; clear hr0
  have HS0 := Lib.hid hs0; clear hs0
  go_wp2_with fail
  refine HN1.out.mono ?_; rintro e w2 ⟨rfl, hb2⟩
  go_wp2_with fail
  obtain ⟨B, hB⟩ : ∃ B, B = w1.heap.size := ⟨_, rfl⟩
  rw [← hB] at hgl hb2
  have HB := Lib.hid hB; clear hB
  go_loopw [4, 5, 6] (fun v4 v5 v6 wr => ∃ (ys es : List Int) (r s : Int) (A : Option Addr) (c m : Nat) (v : Value), v5 = .int .i64 r ∧ v6 = .int .i64 s ∧ v = v4 ∧ Hid (r = (stepI k cl ys).1) ∧ Hid (s = (stepI k cl ys).2) ∧
      Hid (DecAt wr g k (.slice A ys.length c) cl) ∧ Hid (RowI .u8 w1 A ys.length ys) ∧ Hid (Above (g + 1) A) ∧ Hid (A = none → ys.length = 0 ∧ c = 0) ∧ ys.length ≤ c ∧ c ≤ maxLen ∧
      wr.ownsRow B 5 1 v m (es.map (Value.int .u8)) ∧ Kept g B w1 wr ∧ Hid (∀ out rest, Pour k cl ys out rest → Pour k cl xs (es ++ out) rest) ∧ Hid (∀ c ∈ ys, 0 ≤ c ∧ c < 256) ∧ m + 4 * ys.length ≤ 8000) (fun _ _ _ wr => heldLen wr g)
  case atStart =>
    exact ⟨xs, [], r0, s0, A0, c0, 0, _, rfl, rfl, rfl, HR0, HS0, Lib.hid (by rw [hl0]; exact HD.out.below (B := B) hb2 hgl), Lib.hid (by rw [hl0]; exact HR.out), Lib.hid hab, Lib.hid (by rw [hl0]; exact hnil), by omega, hcm, World.ownsRow_nil _ _ _ _, (Kept.refl g B w1).then hb2 (by omega), Lib.hid (fun out rest h => h), HBY, by omega⟩
  case round =>
    obtain ⟨ys, es, r, s, A, c, m, v, rfl, rfl, rfl, HRR, HSS, HDD, HROW, HAB, HNIL, hcap', hcm', hown, hkept, HP, HYB, hml⟩ := hrel
    have k1 := HDD.out.c1
    have f1 := HDD.out.fz 1
    have hBr : B ≤ wr.heap.size := by have := hkept.1.size; have := HB.out; omega
    by_cases hlt : 0 < s
    · have hle := (stepI_le HK3.out cl ys).2
      rw [← HSS.out] at hle
      obtain ⟨l, hl⟩ := Int.eq_ofNat_of_zero_le (show 0 ≤ s by omega)
      subst hl
      have hput := putRow r wr
      obtain ⟨p, hpe⟩ : ∃ p, p = putI (sndI r) := ⟨_, rfl⟩
      have hp4 : p.length ≤ 4 := by rw [hpe]; exact (putI_len _).2
      rw [← hpe] at hput
      have HPE := Lib.hid hpe; clear hpe
      have HPUT := Lib.hid hput; clear hput
      obtain ⟨A', hsl, hrow', hab', hnil'⟩ := slice_from A ys.length c l (by omega)
      have hyl : (ys.drop l).length = ys.length - l := List.length_drop ..
      obtain ⟨zs, hzs⟩ : ∃ zs, zs = ys.drop l := ⟨_, rfl⟩
      rw [← hzs] at hyl
      have hr1 : RowI .u8 w1 A' zs.length zs := by rw [hyl, hzs]; exact hrow' w1 ys HROW.out hcap'
      have hzb : ∀ c ∈ zs, 0 ≤ c ∧ c < 256 := by rw [hzs]; exact fun c hc => HYB.out c (List.mem_of_mem_drop hc)
      rw [← hyl] at hsl
      obtain ⟨r', hr'⟩ : ∃ r, r = (stepI k cl zs).1 := ⟨_, rfl⟩
      obtain ⟨s', hs'⟩ : ∃ r, r = (stepI k cl zs).2 := ⟨_, rfl⟩
      have hnx := fun w h1 h2 => HN.out w A' zs.length (c - l) zs h1 h2 hzb (by omega) (by omega) (by omega)
      rw [← hr', ← hs'] at hnx
      have HNX := Lib.hid hnx; clear hnx
      have HR' := Lib.hid hr'; clear hr'
      have HS' := Lib.hid hs'; clear hs'
      have HZS := Lib.hid hzs; clear hzs
      have HZB := Lib.hid hzb; clear hzb
      have HR1 := Lib.hid hr1; clear hr1
      have HYL := Lib.hid hyl; clear hyl
      have HAB' := Lib.hid (hab' _ HAB.out); clear hab'
      clear hrow'
      go_wp2_with fail
      refine HPUT.out.mono ?_; rintro e w3 ⟨Ap, cp, rfl, q1, q2, q3, q4, q5⟩
      obtain ⟨v', w4, happ, hown4, hgrow4⟩ := app_run .u8 22 5 1 Tryd.underlying22 info_u8 w3 B v m es (own_below hown q5) Ap p.length cp p q1 q4 (by omega) (by unfold maxLen; omega) (Nat.le_trans hBr q5.size)
      have hb4 : Below B wr w4 := (Below.mono q5 hBr).grown hgrow4 (Nat.le_trans hBr q5.size) (by intro k hk; exact ((own_below hown q5).lt k hk).1)
      have hd4 := HDD.out.below hb4 hgl
      have hkept4 := hkept.then hb4 (by omega)
      have k4 := hd4.c1
      have f4 := hd4.fz 1
      have hd5 := Lib.hid (hd4.set1 (.slice A' zs.length (c - l)))
      have hr5 := Lib.hid (HR1.out.kept HAB'.out (hkept4.setg 1 (.slice A' zs.length (c - l))) (by rw [HB.out]; exact Nat.le_refl _))
      have HAPP := Lib.hid happ; clear happ
      have HOWN4 := Lib.hid hown4; clear hown4
      have HKEPT4 := Lib.hid hkept4; clear hkept4
      clear hgrow4 hown q1 q2 q3 q4 q5 hb4 hd4 k1 f1
      go_wp2_with (at_builtin; refine wpList_append_run rfl _ _ 22 rfl rfl _ _ _ _ rfl rfl HAPP.out ?_)
      refine (HNX.out _ hd5.out hr5.out).mono ?_; rintro e w6 ⟨rfl, hb6⟩
      have hB5 : B ≤ (w4.setCell ⟨g, 1, none⟩ (.slice A' zs.length (c - l))).heap.size := by have := (HKEPT4.out.setg 1 (.slice A' zs.length (c - l))).1.size; have := HB.out; omega
      have hd6 := hd5.out.below (Below.mono hb6 hB5) hgl
      have hk6 : Kept g B w1 w6 := (HKEPT4.out.setg 1 (.slice A' zs.length (c - l))).then (Below.mono hb6 hB5) (by omega)
      have ho6 := own_below (ownsRow_setCell_below HOWN4.out (a := ⟨g, 1, none⟩) hgl (.slice A' zs.length (c - l))) hb6
      have HD6 := Lib.hid hd6; clear hd6
      have HK6 := Lib.hid hk6; clear hk6
      have HO6 := Lib.hid ho6; clear ho6
      clear hd5 hr5 hb6 hB5 k4 f4
      go_wp2_with fail
      refine ⟨⟨zs, es ++ p, r', s', A', c - l, m + p.length, v', rfl, rfl, rfl, HR', HS', HD6, HR1, HAB', Lib.hid ?_, by have := HYL.out; omega, by omega, HO6.out, HK6.out, Lib.hid ?_, HZB, by have := HYL.out; omega⟩, ?_⟩
      · intro h
        have := HNIL.out (hnil' h)
        have := HYL.out
        omega
      · intro out rest h
        rw [List.append_assoc]
        have hgo := Pour.go (k := k) (cl := cl) (xs := ys) (out := out) (rest := rest) (by rw [← HSS.out]; exact hlt) (by rw [← HSS.out]; simpa [HZS.out] using h)
        rw [← HRR.out, ← HPE.out] at hgo
        exact HP.out _ _ hgo
      · rw [HD6.out.held, HDD.out.held]
        have := HYL.out
        omega
    · have hcl := clone_any A ys.length c ys wr (HROW.out.kept HAB.out hkept (by rw [HB.out]; exact Nat.le_refl _)) HNIL.out (by omega)
      have HCL := Lib.hid hcl; clear hcl
      have HHK := Lib.hid hkept; clear hkept
      go_wp2_with fail
      refine HCL.out.mono ?_; rintro e w3 ⟨v', rfl, hown3, hb3⟩
      obtain ⟨A3, c3, rfl, _, _, _⟩ := row_of_own hown3
      have hd3 := HDD.out.below (Below.mono hb3 hBr) hgl
      have k3 := hd3.c1
      have f3 := hd3.fz 1
      have ho3 := own_below hown hb3
      have ho4 := Lib.hid (ownsRow_setCell_below ho3 (a := ⟨g, 1, none⟩) hgl (.slice A3 ys.length c3))
      obtain ⟨At, ct, hve, hrt, _, _⟩ := row_of_own ho4.out
      have hcv := strRow _ At m ct es hrt
      have hv4 : (w3.setCell ⟨g, 1, none⟩ (.slice A3 ys.length c3)).ownsRow (g + 1) 5 1 (.slice A3 ys.length c3) ys.length (ys.map (Value.int .u8)) := ownsRow_setCell_below (own_mono hown3 (by omega)) (a := ⟨g, 1, none⟩) (by simp) _
      have HD4 := Lib.hid (hd3.set1 (.slice A3 ys.length c3)); clear hd3
      have HV4 := Lib.hid hv4; clear hv4
      have hk4 := Lib.hid ((HHK.out.then (Below.mono hb3 hBr) (by omega)).setg 1 (.slice A3 ys.length c3))
      rw [← hve] at hcv
      clear ho3 ho4 hrt hown3 hown hve
      go_wp2_with fail
      go_ret
      refine ⟨es, ys, _, rfl, ?_, HD4.out, HV4.out, hb.trans hk4.out.1⟩
      have := HP.out [] ys (Pour.stop (by rw [← HSS.out]; omega))
      rwa [List.append_nil] at this
end Go.Proofs.YtoojfjealncddaaDoor
