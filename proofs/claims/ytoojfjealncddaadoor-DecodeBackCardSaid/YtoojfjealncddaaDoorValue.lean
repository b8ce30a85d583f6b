/- The contract of the document's own value. -/
import Derived.Test.YtoojfjealncddaaDoorNums
namespace Go.Proofs.YtoojfjealncddaaDoor
open Go Go.RowKit

/-- What of a first octet counts. -/
def vheadI (c : Int) : Int := if 240 ≤ c then c - 240 else if 224 ≤ c then c - 224 else if 192 ≤ c then c - 192 else c
/-- .. and the octets behind it. -/
def vtailI : Int → List Int → Int
  | r, [] => r
  | r, c :: t => vtailI (r * 64 + (c + 128) % 256) t
def valI : List Int → Int
  | [] => 0
  | c :: t => vtailI (vheadI c) t

def VRoom (k : Nat) (r : Int) : Prop := 0 ≤ r ∧ (k = 1 → r < 256) ∧ (k = 2 → r < 16640) ∧ (k = 3 → r < 1065216) ∧ (k = 4 → r < 68174080)
theorem VRoom.lt {k : Nat} {r : Int} (h : VRoom k r) (hk1 : 1 ≤ k) (hk : k ≤ 4) : 0 ≤ r ∧ r < 68174080 := by unfold VRoom at h; omega
theorem VRoom.next {k : Nat} {r c : Int} (h : VRoom k r) (h0 : 0 ≤ c) (h1 : c < 256) (hk1 : 1 ≤ k) (hk : k < 4) : VRoom (k + 1) (r * 64 + c) := by unfold VRoom at *; omega

theorem getD_behind {c : Int} {t : List Int} {k : Nat} (hk1 : 1 ≤ k) (h : k - 1 < t.length) : (c :: t).getD k 0 = t[k - 1] := by
  obtain ⟨j, rfl⟩ : ∃ j, k = j + 1 := ⟨k - 1, by omega⟩
  have h' : j < t.length := by omega
  simp [List.getD, h']
set_option maxHeartbeats 1000000 in
theorem value_any (s : ByteArray) (w : World) (h1 : 1 ≤ s.size) (h4 : s.size ≤ 4) :
    Calls Tryd.prog 26 #[.string s] w fun e w' => e = .returned (.int .i64 (valI (nums s))) ∧ w = w' := by
  have hnl := nums_length s
  have hby := nums_byte s
  obtain ⟨c, t, hct⟩ : ∃ c t, nums s = c :: t := by
    cases hq : nums s with
    | nil => rw [hq] at hnl; simp at hnl; omega
    | cons c t => exact ⟨c, t, rfl⟩
  rw [hct] at hnl hby ⊢
  have hcb := hby c (by simp)
  obtain ⟨hc0, hcl⟩ := hcb
  have hidx : ∀ k : Nat, k < s.size → ∀ w, (Instr.index 9 (.string s) (.int .i64 (k : Int))).run Tryd.prog w = .ok (.int .u8 ((c :: t).getD k 0)) w := fun k hk w => by rw [idx_at s k hk w, hct]
  have hi0 := hidx 0 (by omega)
  simp at hi0
  have HI := Lib.hid hidx; clear hidx
  have HB := Lib.hid hby; clear hby
  have HN := Lib.hid hnl; clear hnl
  clear hct
  rw [show valI (c :: t) = vtailI (vheadI c) t from rfl]
  have hroom : VRoom 1 (vheadI c) := by unfold VRoom vheadI; (repeat' split) <;> omega
  have HR := Lib.hid hroom; clear hroom
  obtain ⟨h, hh'⟩ : ∃ h, h = vheadI c := ⟨_, rfl⟩
  rw [← hh'] at HR ⊢
  have HH := Lib.hid hh'; clear hh'
  rcases (show c < 192 ∨ (192 ≤ c ∧ c < 224) ∨ (224 ≤ c ∧ c < 240) ∨ 240 ≤ c by omega) with hh | ⟨hh, hh2⟩ | ⟨hh, hh2⟩ | hh
  all_goals
    go_enter Tryd.func26, Tryd.ntmps26
    go_wp2
    go_loop [4, 5] (fun vr vi => ∃ (k : Nat) (r : Int), 1 ≤ k ∧ k ≤ s.size ∧ vi = .int .i64 k ∧ vr = .int .i64 r ∧ Hid (VRoom k r) ∧ Hid (vtailI r (t.drop (k - 1)) = vtailI h t)) (fun _ vi => s.size - (intOf vi).toNat)
    case atStart => exact ⟨1, h, by omega, h1, rfl, by rw [HH.out]; unfold vheadI; (repeat' split) <;> first | rfl | omega, HR, Lib.hid (by simp)⟩
    case round =>
      obtain ⟨k, r, hk1, hk, rfl, rfl, HK, HG⟩ := hrel
      by_cases hlt : k < s.size
      · have hk' : k - 1 < t.length := by have := HN.out; simp at this; omega
        obtain ⟨x, hx⟩ : ∃ x, x = t[k - 1] := ⟨_, rfl⟩
        have hcr := HB.out x (by rw [hx]; exact List.mem_cons_of_mem _ (List.getElem_mem hk'))
        have hd : t.drop (k - 1) = x :: t.drop (k + 1 - 1) := by
          rw [List.drop_eq_getElem_cons hk', hx, show k - 1 + 1 = k + 1 - 1 by omega]
        have c1 : ∀ w, (Instr.index 9 (.string s) (.int .i64 (k : Int))).run Tryd.prog w = .ok (.int .u8 x) w := by
          intro w
          have hgx : (c :: t).getD k 0 = x := by rw [hx]; exact getD_behind hk1 hk'
          rw [HI.out k hlt w, hgx]
        obtain ⟨hx0, hx1⟩ := hcr
        obtain ⟨hr0, hr1⟩ := HK.out.lt hk1 (by omega)
        have HD := Lib.hid hd
        clear hd hx hk'
        have hxm0 : 0 ≤ (x + 128) % 256 := by omega
        have hxm1 : (x + 128) % 256 < 256 := by omega
        have HM := Lib.hid (HK.out.next hxm0 hxm1 hk1 (by omega))
        go_wp2
        go_round
        case rel =>
          refine ⟨k + 1, r * 64 + (x + 128) % 256, by omega, by omega, by go_num, rfl, HM, Lib.hid ?_⟩
          rw [← HG.out, HD.out, vtailI]
        case measure => simp [intOf]; omega
      · go_wp2
        go_ret
        refine ⟨?_, rfl⟩
        rw [← HG.out, List.drop_eq_nil_of_le (by have := HN.out; simp at this; omega)]
        rfl
end Go.Proofs.YtoojfjealncddaaDoor
