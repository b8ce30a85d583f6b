/- Are two rows of records the same? -/
import Derived.Test.YtnfekbmmnenbfaaRecL
import Derived.BigQuiet
namespace Go.Proofs.Ytnfekbmmnenbfaa
open Go Go.RowKit
set_option linter.unusedVariables false

def recNone : RecL := ⟨0, 0, []⟩
/-- The slice of records at A with n elements reads as rs. -/
def RowR (w : World) (A : Option Addr) (n : Nat) (rs : List RecL) : Prop :=
  rs.length = n ∧ (0 < n → ∃ b o, A = some ⟨b, o, none⟩ ∧ b < w.heap.size ∧ ∀ j, j < n →
    w.cell? ⟨b, o + j * 3, none⟩ = some (.int .i64 ((rs.getD j recNone).num : Int)) ∧ w.cell? ⟨b, o + j * 3 + 1, none⟩ = some (.int .i64 ((rs.getD j recNone).pos : Int)) ∧ w.cell? ⟨b, o + j * 3 + 2, none⟩ = some (.string (strOfNums (rs.getD j recNone).text)))
theorem rec_cells : Try.prog.cellsOf 40 = 3 := by kernel_rfl

theorem cellsR_at : ∀ (rs : List RecL) (j : Nat), j < rs.length → ∀ t, t < 3 → (cellsR rs)[j * 3 + t]? = (rs.getD j recNone).cells[t]?
  | [], j, h, _, _ => by simp at h
  | r :: rs, 0, _, t, ht => by
    show (r.cells ++ cellsR rs)[0 * 3 + t]? = _
    rw [Nat.zero_mul, Nat.zero_add, List.getElem?_append_left (by simp [RecL.cells]; exact ht)]
    rfl
  | r :: rs, j + 1, h, t, ht => by
    show (r.cells ++ cellsR rs)[(j + 1) * 3 + t]? = _
    have hl : r.cells.length = 3 := rfl
    rw [List.getElem?_append_right (by omega), hl, show (j + 1) * 3 + t - 3 = j * 3 + t by omega, cellsR_at rs j (by simpa using h) t ht]
    simp [List.getD]
theorem rowR_of_own {w : World} {B : Nat} {V : Value} {rs : List RecL} {n : Nat} (h : w.ownsRow B 40 3 V n (cellsR rs)) (hl : rs.length = n) : ∃ A c, V = .slice A n c ∧ RowR w A n rs := by
  rcases h.2 with ⟨rfl, rfl⟩ | ⟨g, cap, cur, rfl, hB, hg, hnc, hcm, hcs, ht⟩
  · exact ⟨none, 0, rfl, hl, fun h => absurd h (by omega)⟩
  · refine ⟨_, cap, rfl, hl, fun hn => ⟨g, 0, rfl, (Array.getElem?_eq_some_iff.1 hg).1, fun j hj => ?_⟩⟩
    have hc : ∀ t, t < 3 → w.cell? ⟨g, 0 + j * 3 + t, none⟩ = (rs.getD j recNone).cells[t]? := by
      intro t ht3
      rw [cell_of_row w g (0 + j * 3 + t) cur 40 (0, 0) hg, ← cellsR_at rs j (by omega) t ht3, ← ht, List.getElem?_take_of_lt (by omega), Array.getElem?_toList, Nat.zero_add]
    exact ⟨hc 0 (by omega), hc 1 (by omega), hc 2 (by omega)⟩

set_option maxHeartbeats 1000000 in
theorem rsame_any (rs : List RecL) (A D : Option Addr) (n c d : Nat) (W : World) (ha : RowR W A n rs) (hb : RowR W D n rs) (hn : n ≤ 1000000) :
    Calls Try.prog 10 #[.slice A n c, .slice D n d] W fun e w' => e = .returned (.bool true) ∧ ∃ q, w' = W.drewN q := by
  have HA := Lib.hid ha; clear ha
  have HB := Lib.hid hb; clear hb
  go_enter Try.func10, Try.ntmps10
  go_wp2
  go_loopw [5] (fun i wr => ∃ k q : Nat, k ≤ n ∧ i = .int .i64 k ∧ wr = W.drewN q) (fun i _ => n - (intOf i).toNat)
  case atStart => exact ⟨0, 0, Nat.zero_le _, rfl, rfl⟩
  case round =>
    obtain ⟨k, q, hk, rfl, rfl⟩ := hrel
    by_cases hlt : k < n
    · obtain ⟨b, o, rfl, _, hc⟩ := HA.out.2 (by omega)
      obtain ⟨b', o', rfl, _, hc'⟩ := HB.out.2 (by omega)
      obtain ⟨c0, c1, c2⟩ := hc k hlt
      obtain ⟨e0, e1, e2⟩ := hc' k hlt
      obtain ⟨r, hr⟩ : ∃ r, r = rs.getD k recNone := ⟨_, rfl⟩
      rw [← hr] at c0 c1 c2 e0 e1 e2
      clear hc hc' hr
      have hcl := rec_cells
      go_wp2
      go_quiet (fail)
      go_wp2
      refine ⟨⟨k + 1, q + nq, by omega, by go_num, rfl⟩, by simp [intOf]; omega⟩
    · go_wp2
      go_ret
      exact ⟨rfl, _, rfl⟩
end Go.Proofs.Ytnfekbmmnenbfaa
