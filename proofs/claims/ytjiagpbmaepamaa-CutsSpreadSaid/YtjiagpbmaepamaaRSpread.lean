/- The document's own Spread. -/
import Derived.Test.YtjiagpbmaepamaaSpread
namespace Go.Proofs.Ytjiagpbmaepamaa
open Go Go.RowKit Go.Deep
set_option linter.unusedVariables false

/-- One part after the other. -/
def refL : Nat → Nat → List Int
  | _, 0 => []
  | n, k + 1 => ((n / (k + 1) : Nat) : Int) :: refL (n - n / (k + 1)) k
theorem refL_parts : ∀ (k e r : Nat), r ≤ k → refL (e * k + r) k = List.replicate (k - r) (e : Int) ++ List.replicate r ((e : Int) + 1)
  | 0, e, r, h => by
    obtain rfl : r = 0 := by omega
    simp [refL]
  | k + 1, e, r, h => by
    rcases Nat.lt_or_ge r (k + 1) with hr | hr
    · have hd : (e * (k + 1) + r) / (k + 1) = e := by
        rw [Nat.mul_comm, Nat.mul_add_div (by omega), Nat.div_eq_of_lt hr]; omega
      have hs : e * (k + 1) + r - e = e * k + r := by rw [Nat.mul_add]; omega
      rw [refL, hd, hs, refL_parts k e r (by omega), show k + 1 - r = (k - r) + 1 by omega, List.replicate_succ]
      rfl
    · obtain rfl : r = k + 1 := by omega
      have hm : e * (k + 1) + (k + 1) = (e + 1) * (k + 1) := by rw [Nat.add_mul]; omega
      have hd : (e + 1) * (k + 1) / (k + 1) = e + 1 := Nat.mul_div_cancel _ (by omega)
      have hs : (e + 1) * (k + 1) - (e + 1) = (e + 1) * k + 0 := by rw [Nat.mul_add]; omega
      rw [hm, refL, hd, hs, refL_parts k (e + 1) 0 (by omega), Nat.sub_self, List.replicate_succ]
      simp
theorem partsL_ref (N M : Nat) : refL N (cntN N M) = partsL N M := by
  have h := refL_parts (cntN N M) (N / cntN N M) (N % cntN N M) (Nat.le_of_lt (Nat.mod_lt _ (cntN_pos N M)))
  rw [Nat.div_add_mod'] at h
  exact h

theorem cntN_one (N : Nat) (h : 1 ≤ N) : cntN N 1 = N := by unfold cntN; rw [Nat.div_one]; omega
theorem cntN_more (N M : Nat) (hM : 1 ≤ M) (h : N / M * M < N) : cntN N M = N / M + 1 := by
  unfold cntN
  have h1 : M * (N / M) + N % M = N := Nat.div_add_mod N M
  have hr : N % M < M := Nat.mod_lt _ hM
  rw [Nat.mul_comm] at h
  have e : N - 1 = M * (N / M) + (N % M - 1) := by
    obtain ⟨b, hb⟩ : ∃ b, b = M * (N / M) := ⟨_, rfl⟩
    rw [← hb] at h h1 ⊢
    omega
  have hd : (N - 1) / M = N / M := by
    rw [e, Nat.mul_add_div hM, Nat.div_eq_of_lt (show N % M - 1 < M by omega), Nat.add_zero]
  rw [hd]
theorem cntN_same (N M : Nat) (hN : 1 ≤ N) (hM : 1 ≤ M) (h : ¬ N / M * M < N) : cntN N M = N / M := by
  unfold cntN
  have h1 : M * (N / M) + N % M = N := Nat.div_add_mod N M
  obtain ⟨q, hq⟩ : ∃ q, q = N / M := ⟨_, rfl⟩
  rw [Nat.mul_comm] at h
  rw [← hq] at h h1 ⊢
  have hq0 : 0 < q := by
    rcases Nat.eq_zero_or_pos q with h0 | h0
    · rw [h0] at h; omega
    · exact h0
  obtain ⟨s, rfl⟩ : ∃ s, q = s + 1 := ⟨q - 1, by omega⟩
  rw [Nat.mul_add, Nat.mul_one] at h h1
  have e : N - 1 = M * s + (M - 1) := by
    obtain ⟨b, hb⟩ : ∃ b, b = M * s := ⟨_, rfl⟩
    rw [← hb] at h h1 ⊢
    omega
  have hd : (N - 1) / M = s := by
    rw [e, Nat.mul_add_div hM, Nat.div_eq_of_lt (show M - 1 < M by omega), Nat.add_zero]
  rw [hd]

theorem rspread_none (n most : Int) (hn : n < 1) (W : World) :
    Calls Try.prog 15 #[.int .i64 n, .int .i64 most] W fun e w' => e = .returned (.slice none 0 0) ∧ W = w' := by
  go_enter Try.func15, Try.ntmps15
  go_wp2
  go_ret
  exact ⟨rfl, rfl⟩

set_option maxHeartbeats 2000000 in
theorem rspread_some (N M : Nat) (most : Int) (hM : max most 1 = (M : Int)) (hN1 : 1 ≤ N) (hN : N ≤ 100000) (W : World) :
    Calls Try.prog 15 #[.int .i64 (N : Int), .int .i64 most] W fun e w' => ∃ A c, e = .returned (.slice A (cntN N M) c) ∧ RowI .i64 w' A (cntN N M) (partsL N M) ∧ Below W.heap.size W w' := by
  have hM1 : 1 ≤ M := by omega
  have hq : (N : Int) / (M : Int) = ((N / M : Nat) : Int) := by simp
  have hqN : N / M ≤ N := Nat.div_le_self _ _
  have hpr : ((N / M : Nat) : Int) * (M : Int) = ((N / M * M : Nat) : Int) := by simp
  have hpN : N / M * M ≤ N := Nat.div_mul_le_self N M
  have hone := fun h : M = 1 => (by rw [h]; exact cntN_one N hN1 : cntN N M = N)
  have hmore := cntN_more N M hM1
  have hsame := cntN_same N M hN1 hM1
  have hpl := partsL_ref N M
  have hlen := partsL_length N M
  obtain ⟨c1, hc1⟩ : ∃ c1, c1 = N / M := ⟨_, rfl⟩
  rw [← hc1] at hq hqN hpr hpN hmore hsame
  obtain ⟨p, hp⟩ : ∃ p, p = c1 * M := ⟨_, rfl⟩
  rw [← hp] at hpr hpN hmore hsame
  obtain ⟨C, hC⟩ : ∃ C, C = cntN N M := ⟨_, rfl⟩
  rw [← hC] at hone hmore hsame hpl hlen ⊢
  have hcases : (most < 1 ∧ C = N) ∨ (1 ≤ most ∧ most = (M : Int) ∧ ((p < N ∧ C = c1 + 1) ∨ (¬ p < N ∧ C = c1))) := by
    by_cases h1 : most < 1
    · exact .inl ⟨h1, hone (by omega)⟩
    · refine .inr ⟨by omega, by omega, ?_⟩
      by_cases h2 : p < N
      · exact .inl ⟨h2, hmore h2⟩
      · exact .inr ⟨h2, hsame h2⟩
  obtain ⟨PL, hPL⟩ : ∃ PL, PL = partsL N M := ⟨_, rfl⟩
  rw [← hPL] at hpl hlen ⊢
  have HPL := Lib.hid hpl; clear hpl
  have HLEN := Lib.hid hlen; clear hlen
  clear hone hmore hsame hC hc1 hp hPL
  rcases hcases with ⟨h1, rfl⟩ | ⟨h1, rfl, ⟨h2, rfl⟩ | ⟨h2, rfl⟩⟩
  all_goals
    go_enter Try.func15, Try.ntmps15
    go_wp2_with fail
    go_loopw [0, 5, 6] (fun vn vk vo wr => ∃ (k n' q : Nat) (P : Option Addr) (pc : Nat) (acc : List Int), n' ≤ 100000 ∧ k + q ≤ 200000 ∧ vk = .int .i64 (k : Int) ∧ vn = .int .i64 (n' : Int) ∧ vo = .slice P q pc ∧ Hid (acc ++ refL n' k = PL) ∧ Hid (acc.length = q) ∧ Hid (wr.ownsRow W.heap.size 3 1 (.slice P q pc) q (acc.map (.int .i64))) ∧ Below W.heap.size W wr) (fun _ vk _ _ => (intOf vk).toNat)
    case atStart => first
      | exact ⟨c1 + 1, _, 0, none, 0, [], by omega, by omega, (by first | rfl | go_num), rfl, rfl, HPL, Lib.hid rfl, Lib.hid (World.ownsRow_nil _ _ _ _), Below.refl _ _⟩
      | exact ⟨_, _, 0, none, 0, [], by omega, by omega, (by first | rfl | go_num), rfl, rfl, HPL, Lib.hid rfl, Lib.hid (World.ownsRow_nil _ _ _ _), Below.refl _ _⟩
    case round =>
      obtain ⟨k, n', q, P, pc, acc, hn', hkq, rfl, rfl, rfl, HREF, HACC, HO, hb⟩ := hrel
      by_cases hk : 0 < k
      · obtain ⟨k', rfl⟩ : ∃ k', k = k' + 1 := ⟨k - 1, by omega⟩
        have hdv : (n' : Int) / ((k' : Int) + 1) = ((n' / (k' + 1) : Nat) : Int) := by
          rw [show (k' : Int) + 1 = ((k' + 1 : Nat) : Int) by omega]
          simp
        have hdn : n' / (k' + 1) ≤ n' := Nat.div_le_self _ _
        have href : refL n' (k' + 1) = ((n' / (k' + 1) : Nat) : Int) :: refL (n' - n' / (k' + 1)) k' := rfl
        obtain ⟨d, hd⟩ : ∃ d, d = n' / (k' + 1) := ⟨_, rfl⟩
        rw [← hd] at hdv hdn href
        obtain ⟨V', w3, happ, hown3, hg3⟩ := push_run 23 3 _ 8 Try.underlying23 info_int rfl wr W.heap.size _ q _ HO.out (.int .i64 (d : Int)) rfl (by omega) (by unfold maxLen; omega) hb.size
        have hb3 : Below W.heap.size W w3 := (hb.alloc hb.size _).grown hg3 (by have := hb.size; simp; omega) (by intro k hk; exact (HO.out.lt k hk).1)
        obtain ⟨P', pc', rfl, _, _, _, _⟩ := own_cells hown3
        have hown4 : w3.ownsRow W.heap.size 3 1 (.slice P' (q + 1) pc') (q + 1) ((acc ++ [(d : Int)]).map (.int .i64)) := by simpa using hown3
        have HO4 := Lib.hid hown4; clear hown4 hown3 hg3
        have HA := Lib.hid happ; clear happ
        have HREF4 : Hid ((acc ++ [(d : Int)]) ++ refL (n' - d) k' = PL) := Lib.hid (by rw [List.append_assoc, ← HREF.out, href]; rfl)
        have hsub : (n' : Int) - (d : Int) = ((n' - d : Nat) : Int) := by omega
        obtain ⟨m', hm'⟩ : ∃ m', m' = n' - d := ⟨_, rfl⟩
        rw [← hm'] at hsub HREF4
        have hm2 : m' ≤ 100000 := by omega
        clear href hd hm'
        go_wp2_with (at_builtin; refine wpList_append_run rfl _ _ 23 rfl rfl _ _ _ _ rfl rfl HA.out ?_)
        refine ⟨⟨k', m', q + 1, P', pc', acc ++ [(d : Int)], hm2, by omega, by go_num, rfl, rfl, HREF4, Lib.hid (by simp [HACC.out]), HO4, hb3⟩, by simp [intOf]⟩
      · obtain rfl : k = 0 := by omega
        have e := HREF.out
        rw [refL, List.append_nil] at e
        have eq := HLEN.out
        rw [← e, HACC.out] at eq
        go_wp2
        go_ret
        have h1 := HO.out
        rw [e] at h1
        obtain ⟨D, d, hD, hri, _, _⟩ := row_of_own h1
        injection hD with e1 e2 e3
        subst e1; subst e3
        rw [← eq]
        exact ⟨_, _, rfl, hri, hb⟩
end Go.Proofs.Ytjiagpbmaepamaa
