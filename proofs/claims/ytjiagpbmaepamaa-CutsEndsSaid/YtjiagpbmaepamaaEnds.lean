/- The contract of cuts.Ends. -/
import Derived.Test.YtjiagpbmaepamaaOwn
import Derived.Test.YtjiagpbmaepamaaCutS
namespace Go.Proofs.Ytjiagpbmaepamaa
open Go Go.RowKit
set_option linter.unusedVariables false

/-- Where each piece ends, as the machine's numbers have it. -/
def endsL : Int → List (List Int) → List Int
  | _, [] => []
  | e, p :: ps => IntKind.i64.wrap (e + p.length) :: endsL (IntKind.i64.wrap (e + p.length)) ps
/-- The last one of them. -/
def endL : Int → List (List Int) → Int
  | e, [] => e
  | e, p :: ps => endL (IntKind.i64.wrap (e + p.length)) ps
theorem endsL_length : ∀ (e : Int) (ps : List (List Int)), (endsL e ps).length = ps.length
  | _, [] => rfl
  | e, p :: ps => by simp [endsL, endsL_length _ ps]
theorem endsL_push : ∀ (e : Int) (ps : List (List Int)) (p : List Int), endsL e (ps ++ [p]) = endsL e ps ++ [endL e (ps ++ [p])]
  | e, [], p => rfl
  | e, q :: ps, p => by
    rw [List.cons_append, endsL, endsL_push _ ps p, endsL, endL]
    rfl
theorem endL_push : ∀ (e : Int) (ps : List (List Int)) (p : List Int), endL e (ps ++ [p]) = IntKind.i64.wrap (endL e ps + p.length)
  | e, [], p => rfl
  | e, q :: ps, p => by rw [List.cons_append, endL, endL_push _ ps p, endL]
/-- As long as all is small, it is the number of the octets. -/
theorem endL_small : ∀ (ps : List (List Int)) (a : Nat), a + ps.flatten.length ≤ 1000000 → endL (a : Int) ps = ((a + ps.flatten.length : Nat) : Int)
  | [], a, h => by simp [endL]
  | p :: ps, a, h => by
    rw [List.flatten_cons, List.length_append] at h ⊢
    have hw : IntKind.i64.wrap ((a : Int) + (p.length : Int)) = ((a + p.length : Nat) : Int) := by rw [IntKind.wrap_i64]; omega
    rw [endL, hw, endL_small ps (a + p.length) (by omega), Nat.add_assoc]
theorem endsL_get (ps : List (List Int)) (j : Nat) (h : j < ps.length) (e : Int) : (endsL e ps).getD j 0 = endL e (ps.take (j + 1)) := by
  have hsplit : ps = ps.take (j + 1) ++ ps.drop (j + 1) := (List.take_append_drop _ _).symm
  have happ : ∀ (qs rs : List (List Int)) (e : Int), endsL e (qs ++ rs) = endsL e qs ++ endsL (endL e qs) rs := by
    intro qs
    induction qs with
    | nil => intro rs e; rfl
    | cons q qs ih => intro rs e; rw [List.cons_append, endsL, ih, endsL, endL]; rfl
  have ht : ps.take (j + 1) = ps.take j ++ [ps[j]] := by rw [List.take_succ_eq_append_getElem h]
  conv => lhs; rw [hsplit, happ, ht, endsL_push]
  rw [List.getD, List.append_assoc, List.getElem?_append_right (by rw [endsL_length, List.length_take]; omega), endsL_length, List.length_take]
  rw [show j - min j ps.length = 0 by omega]
  rw [ht]
  rfl

set_option maxHeartbeats 1000000 in
theorem ends_any (ps : List (List Int)) (A : Option Addr) (n c : Nat) (W : World) (hr : RowB W A n ps) (hn : n ≤ 1000) :
    Calls Try.prog 12 #[.slice A n c] W fun e w' => ∃ D d, e = .returned (.slice D n d) ∧ RowI .i64 w' D n (endsL 0 ps) ∧ Below W.heap.size W w' := by
  have hl := hr.1
  have HR := Lib.hid hr; clear hr
  have HL := Lib.hid hl; clear hl
  go_enter Try.func12, Try.ntmps12
  go_wp2_with fail
  go_loopw [3, 4, 9] (fun vo ve vi wr => ∃ (q : Nat) (P : Option Addr) (pc : Nat) (E : Int), q ≤ n ∧ vi = .int .i64 (q : Int) ∧ ve = .int .i64 E ∧ vo = .slice P q pc ∧ Hid (E = endL 0 (ps.take q)) ∧ Hid (wr.ownsRow W.heap.size 3 1 (.slice P q pc) q ((endsL 0 (ps.take q)).map (.int .i64))) ∧ Below W.heap.size W wr) (fun _ _ vi _ => n - (intOf vi).toNat)
  case atStart => exact ⟨0, none, 0, 0, by omega, rfl, rfl, rfl, Lib.hid rfl, Lib.hid (World.ownsRow_nil _ _ _ _), Below.refl _ _⟩
  case round =>
    obtain ⟨q, P, pc, E, hq, rfl, rfl, rfl, HE, HO, hb⟩ := hrel
    by_cases hlt : q < n
    · obtain ⟨b, o, rfl, hbl, hc⟩ := (HR.out.below hb (Nat.le_refl _)).2 (by omega)
      obtain ⟨D, d, hcell, _, _⟩ := hc q hlt
      have hqp : q < ps.length := by rw [HL.out]; exact hlt
      have hgd : ps.getD q [] = ps[q] := by simp [List.getD, List.getElem?_eq_getElem hqp]
      rw [hgd] at hcell
      have ht : ps.take (q + 1) = ps.take q ++ [ps[q]] := by rw [List.take_succ_eq_append_getElem hqp]
      obtain ⟨L, hL⟩ : ∃ L, L = ps[q].length := ⟨_, rfl⟩
      have he2 : endL 0 (ps.take (q + 1)) = IntKind.i64.wrap (E + (L : Int)) := by rw [ht, endL_push, ← HE.out, ← hL]
      have hes : endsL 0 (ps.take (q + 1)) = endsL 0 (ps.take q) ++ [endL 0 (ps.take (q + 1))] := by rw [ht, endsL_push]
      rw [← hL] at hcell
      obtain ⟨E2, hE2⟩ : ∃ E2, E2 = IntKind.i64.wrap (E + (L : Int)) := ⟨_, rfl⟩
      obtain ⟨V', w3, happ, hown3, hg3⟩ := push_run 23 3 _ 8 Try.underlying23 info_int rfl wr W.heap.size _ q _ HO.out (.int .i64 E2) rfl (by omega) (by unfold maxLen; omega) hb.size
      have hb3 : Below W.heap.size W w3 := (hb.alloc hb.size _).grown hg3 (by have := hb.size; simp; omega) (by intro k hk; exact (HO.out.lt k hk).1)
      obtain ⟨P', pc', rfl, _, _, _, _⟩ := own_cells hown3
      have hown4 : w3.ownsRow W.heap.size 3 1 (.slice P' (q + 1) pc') (q + 1) ((endsL 0 (ps.take (q + 1))).map (.int .i64)) := by
        rw [hes, he2, ← hE2]
        simpa using hown3
      have HO4 := Lib.hid hown4; clear hown4 hown3 hg3
      have HA := Lib.hid happ; clear happ
      have HE3 : Hid (E2 = endL 0 (ps.take (q + 1))) := Lib.hid (by rw [he2, hE2])
      have hadd : IntKind.i64.wrap (E + (L : Int)) = E2 := hE2.symm
      clear hc hgd ht hL he2 hes hE2
      go_wp2_with (at_builtin; refine wpList_append_run rfl _ _ 23 rfl rfl _ _ _ _ rfl rfl HA.out ?_)
      refine ⟨⟨q + 1, P', pc', E2, by omega, by go_num, rfl, rfl, HE3, HO4, hb3⟩, by simp [intOf]; omega⟩
    · obtain rfl : q = n := by omega
      go_wp2
      go_ret
      have h1 := HO.out
      rw [List.take_of_length_le (by rw [HL.out]; omega)] at h1
      obtain ⟨D, d, hD, hri, _, _⟩ := row_of_own h1
      injection hD with e1 e2 e3
      subst e1; subst e3
      exact ⟨_, _, rfl, hri, hb⟩
end Go.Proofs.Ytjiagpbmaepamaa
