/- The law's rows, made out of a number, a text, and whether there is a hit. -/
import Derived.Test.YtebmafghekfllaaDoorTelF18
namespace Go.Proofs.YtebmafghekfllaaDoor
open Go Go.RowKit
set_option linter.unusedVariables false
set_option maxRecDepth 20000
theorem results_cell1 {fn : Func} {p : Tmp} {ty : TypeId} (h : fn.results = #[.cell p ty]) (tmps : Array Value) (P : Program) (w : World) :
    (results fn tmps).run P w = ((asAddr (tmps.getD p undef)).run P w).andThen fun a w₁ => (loadVar ty a).run P w₁ := by
  simp only [results, h]
  simp [Sem.run_bind, Result.andThen]
set_option maxHeartbeats 2000000 in
theorem row_no (n : Int) (s : ByteArray) (w : World) : Calls Tryd.prog 15 #[.int .i64 n, .string s, .bool false] w fun e w' => e = .returned (Rw.val ⟨n, 0, s, none, 0, 0, []⟩) ∧ Below w.heap.size w w' := by
  unfold Rw.val
  dsimp only
  go_enter Tryd.func15, Tryd.ntmps15
  go_wp2_with fail
  refine bodyPost_ret (v := .agg #[.int .i64 n, .int .i64 0, .string s, .slice none 0 0]) ?_ rfl ⟨rfl, ?_⟩
  · rw [results_cell1 rfl]; go_simp
  · exact ((Below.refl _ _).alloc (Nat.le_refl _) _).alloc (by simp) _
set_option maxHeartbeats 2000000 in
theorem row_yes (n : Int) (s : ByteArray) (w : World) : Calls Tryd.prog 15 #[.int .i64 n, .string s, .bool true] w fun e w' => ∃ b, e = .returned (Rw.val ⟨n, 0, s, some ⟨b, 0, none⟩, 1, 1, [(0, 0)]⟩) ∧ w.heap.size ≤ b ∧ w'.heap[b]? = some (.cells #[.int .i64 0, .int .i64 0] 42 (0, 0)) ∧ Below w.heap.size w w' := by
  unfold Rw.val
  dsimp only
  go_enter Tryd.func15, Tryd.ntmps15
  go_wp2_with fail
  refine bodyPost_ret (v := .agg #[.int .i64 n, .int .i64 0, .string s, .slice (some ⟨w.heap.size + 1 + 1, 0, none⟩) 1 1]) ?_ rfl ⟨w.heap.size + 1 + 1, rfl, by omega, at_new _ _ (by simp), ?_⟩
  · rw [results_cell1 rfl]; go_simp
  · exact (((Below.refl _ _).alloc (Nat.le_refl _) _).alloc (by simp) _).alloc (by simp; omega) _
/-- What row answers. -/
theorem row_any (n : Int) (s : ByteArray) (hit : Bool) (w : World) : Calls Tryd.prog 15 #[.int .i64 n, .string s, .bool hit] w fun e w' => ∃ x : Rw, e = .returned x.val ∧ (x.n = n ∧ x.tx = s ∧ hitX x = hit ∧ x.hm ≤ 1) ∧ RHits w' x ∧ (0 < x.hm → ∃ b o, x.hA = some ⟨b, o, none⟩ ∧ w.heap.size ≤ b ∧ b < w'.heap.size) ∧ Below w.heap.size w w' := by
  rcases hit with _ | _
  · refine (row_no n s w).mono fun e w' hh => ⟨_, hh.1, ⟨rfl, rfl, rfl, Nat.zero_le _⟩, ⟨ReadR.nil_ _ _ _ _, fun _ => ⟨rfl, rfl⟩⟩, fun h => absurd h (Nat.lt_irrefl 0), hh.2⟩
  · refine (row_yes n s w).mono fun e w' hh => ?_
    obtain ⟨b, he, hb, hc, hw⟩ := hh
    refine ⟨_, he, ⟨rfl, rfl, ?_, Nat.le_refl _⟩, ⟨?_, fun h => by cases h⟩, fun _ => ⟨b, 0, rfl, hb, (Array.getElem?_eq_some_iff.1 hc).1⟩, hw⟩
    · show (!(List.filter (okH s.size) [(0, 0)]).isEmpty) = true
      rw [List.filter_cons, show okH s.size (0, 0) = true by unfold okH; simp, if_pos rfl]
      rfl
    · exact read_one hc (hwide (0, 0))
end Go.Proofs.YtebmafghekfllaaDoor
