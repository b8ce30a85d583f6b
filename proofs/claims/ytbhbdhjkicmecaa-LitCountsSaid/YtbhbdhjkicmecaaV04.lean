/- Trees again and again; any tree. -/
import Derived.Test.YtbhbdhjkicmecaaM15
import Derived.Test.YtbhbdhjkicmecaaV02
import Derived.Test.YtbhbdhjkicmecaaV03
namespace Go.Proofs.Ytbhbdhjkicmecaa
open Go Go.RowKit
set_option linter.unusedVariables false
set_option maxRecDepth 20000

theorem ofs1_any (g h : Nat) (s : ByteArray) (b : Bool) (j : Int) (w : World) (hg : w.cell? ⟨g, 0, none⟩ = some (.string s)) (hh : w.cell? ⟨h, 0, none⟩ = some (.bool b)) :
    Calls Try.prog 32 #[.int .i64 j, .pointer (some ⟨g, 0, none⟩), .pointer (some ⟨h, 0, none⟩)] w fun e w' => e = .returned (.tuple #[.string s, .bool b]) ∧ Below w.heap.size w w' := by
  go_enter Try.func32, Try.ntmps32
  go_wp2_with fail
  go_quiet (fail)
  go_wp2
  go_ret2
  exact ⟨rfl, below_drewN (Below.refl _ _) _⟩
section
variable {F : Nat → Prop} {w0 : World} {D : Option Addr} {nk ck : Nat} {K : Wood}
set_option maxHeartbeats 8000000 in
theorem often_any (h : KidsC F w0 D nk K) (hnk : nk ≤ 100000) (hsz : ∀ p ∈ prefs K, p.1.size ≤ 200) (op : Int) (A : Option Addr) (ns cs : Nat) (mn mx : Int) (hm : 0 ≤ mn) (hm2 : mn ≤ 1000000) (w : World) (hb : Below w0.heap.size w0 w) :
    Calls Try.prog 16 #[.agg #[.int .i64 op, .slice A ns cs, .int .i64 mn, .int .i64 mx, .slice D nk ck]] w fun e w' => e = .returned (.tuple #[.string (repP mn mx (prefs K)).1, .bool (repP mn mx (prefs K)).2]) ∧ Below w.heap.size w w' := by
  have hb1 : Below w.heap.size w (w.alloc (.cells #[.int .i64 op, .slice A ns cs, .int .i64 mn, .int .i64 mx, .slice D nk ck] 31)) := (Below.refl _ _).alloc (Nat.le_refl _) _
  have hT := together_any (ck := ck) h hnk hsz (w.alloc (.cells #[.int .i64 op, .slice A ns cs, .int .i64 mn, .int .i64 mx, .slice D nk ck] 31)) (hb.trans (hb1.mono hb.size))
  unfold repP
  have hk2 : (rowP ByteArray.empty (prefs K)).1.size ≤ 200 := rowP_size _ _ (by simp)
  obtain ⟨⟨s, b⟩, hkp⟩ : ∃ p, p = rowP ByteArray.empty (prefs K) := ⟨_, rfl⟩
  rw [← hkp] at hT hk2 ⊢
  obtain ⟨n, hn⟩ : ∃ n : Nat, min mn 201 = (n : Int) := Int.eq_ofNat_of_zero_le (by omega)
  rw [hn, Int.toNat_natCast]
  have hn2 : n ≤ 201 := by omega
  obtain ⟨⟨r, q⟩, hR⟩ : ∃ p, p = rowP ByteArray.empty (List.replicate n ((s, b) : Pre)) := ⟨_, rfl⟩
  rw [← hR]
  dsimp only at hT hk2 ⊢
  have HR := Lib.hid (fun (g h : Nat) (w : World) (hc : ∀ w', Below w.heap.size w w' → w'.cell? ⟨g, 0, none⟩ = some (.string s) ∧ w'.cell? ⟨h, 0, none⟩ = some (.bool b)) => row_times g h n (List.replicate n ((s, b) : Pre)) (by simp) (fun p hp => by rw [List.eq_of_mem_replicate hp]; exact hk2) (by omega) w (fun j p hp w' hw' => by
    have := List.eq_of_mem_replicate (List.mem_of_getElem? hp)
    subst this
    exact ofs1_any g h s b _ w' (hc w' hw').1 (hc w' hw').2))
  rw [← hR] at HR
  dsimp only at HR
  have HT := Lib.hid hT
  have HB := Lib.hid hb1
  obtain ⟨v, hv⟩ : ∃ v, v = (mx == max mn 0) := ⟨_, rfl⟩
  have hmax : max mn 0 = mn := by omega
  have hv2 : (mx == mn) = v := by rw [hv, hmax]
  rw [← hv]
  have HMn := Lib.hid (And.intro hm hm2)
  clear hT hb1 h hsz hb hkp hk2 hR hv hm hm2
  go_enter Try.func16, Try.ntmps16
  go_wp2_with (go_at_call 14; (with_reducible refine HT.out.mono ?_); rintro e w1 ⟨rfl, hb1⟩; have hbx := (hb1.block w.heap.size (by simp)).trans (heap_alloc_new w _); obtain ⟨y0, y1, y2, y3, y4, yf⟩ := box_facts hbx; have hw1 : w.heap.size < w1.heap.size := Nat.lt_of_lt_of_le (by simp) hb1.size; have H1 := Lib.hid (And.intro hb1 hbx); clear hb1 hbx)
  obtain ⟨W2, hW2⟩ : ∃ W2, W2 = (w1.alloc (.cells #[.string s] 9)).alloc (.cells #[.bool b] 4) := ⟨_, rfl⟩
  have hb2 : Below w1.heap.size w1 W2 := by rw [hW2]; exact ((Below.refl _ w1).alloc (Nat.le_refl _) _).alloc (by simp) _
  have z2 : W2.heap.size = w1.heap.size + 2 := by rw [hW2]; simp
  have e4 : W2.heap[w1.heap.size]? = some (.cells #[.string s] 9 (0, 0)) := by rw [hW2]; exact at_up (at_new w1 _ rfl) _
  have e5 : W2.heap[w1.heap.size + 1]? = some (.cells #[.bool b] 4 (0, 0)) := by rw [hW2]; exact at_new _ _ (by simp)
  rw [← hW2]
  refine (HR.out w1.heap.size (w1.heap.size + 1) W2 (fun w' hw' => ⟨cell_of_row w' w1.heap.size 0 _ _ (0, 0) ((hw'.block _ (by omega)).trans e4), cell_of_row w' (w1.heap.size + 1) 0 _ _ (0, 0) ((hw'.block _ (by omega)).trans e5)⟩)).mono ?_
  rintro e w3 ⟨rfl, hb3⟩
  have hbx3 := (hb3.block w.heap.size (by omega)).trans ((hb2.block w.heap.size hw1).trans H1.out.2)
  have g5 := cell_of_row w3 (w1.heap.size + 1) 0 _ _ (0, 0) ((hb3.block _ (by omega)).trans e5)
  obtain ⟨y0, y1, y2, y3, y4, yf⟩ := box_facts hbx3
  have HZ := Lib.hid (And.intro hb2 (And.intro hb3 z2))
  clear e4 e5 hbx3 hb2 hb3 z2 hW2 hw1
  rcases b with _ | _ <;> rcases q with _ | _
  all_goals
    go_wp2_with fail
    go_quiet (fail)
    go_wp2
    go_ret2
    refine ⟨by simp, below_drewN ?_ _⟩
    exact (HB.out.trans (H1.out.1.mono (by simp))).trans ((HZ.out.1.mono (Nat.le_trans (by simp) H1.out.1.size |> Nat.le_of_succ_le)).trans (HZ.out.2.1.mono (by have := HZ.out.2.2; have := H1.out.1.size; simp at this; omega)))
end
end Go.Proofs.Ytbhbdhjkicmecaa
/- What any tree begins with. -/
namespace Go.Proofs.Ytbhbdhjkicmecaa
open Go Go.RowKit
set_option linter.unusedVariables false
set_option maxRecDepth 20000

def PreOk : Wood → Prop
  | .nil => True
  | .cons op s mn mx k x => (Canon s ∧ s.length ≤ 2000000 ∧ 0 ≤ mn ∧ mn ≤ 1000000 ∧ k.len ≤ 100000) ∧ PreOk k ∧ PreOk x
theorem PreOk.nth : ∀ {T : Wood} {j : Nat}, PreOk T → PreOk (T.nth j)
  | .nil, _, _ => trivial
  | .cons op s mn mx k x, 0, h => ⟨h.1, h.2.1, trivial⟩
  | .cons op s mn mx k x, j + 1, h => PreOk.nth (T := x) h.2.2
set_option maxHeartbeats 8000000 in
theorem prefix_any : ∀ (N : Nat) (T : Wood), heavy T ≤ N → PreOk T → ∀ (F : Nat → Prop) (v : Value) (w0 : World), NodeIn F w0 v T → PreC w0 v ((prefs T)[0]?.getD (ByteArray.empty, false)) := by
  intro N
  induction N with
  | zero =>
    intro T hT _ F v w0 hin
    obtain ⟨op, s, mn, mx, k, A, D, ns, cs, nk, ck, rfl, _⟩ := hin
    simp only [heavy] at hT
    omega
  | succ N ih =>
    intro T hT hok F v w0 hin w hb
    obtain ⟨op, s, mn, mx, k, A, D, ns, cs, nk, ck, rfl, rfl, hr, hk⟩ := hin
    obtain ⟨⟨hcan, hsl, hm0, hm1, hkl⟩, hkok, _⟩ := hok
    have hKC : KidsC F w0 D nk k := ⟨hk, fun j hj v hv => by
      have hj2 : j < k.len := by rw [hk.1]; exact hj
      have h1 := ih (k.nth j) (by have := heavy_nth k j hj2; simp only [heavy] at hT; omega) hkok.nth F v w0 hv
      rw [prefs_nth k j hj2] at h1
      simpa using h1⟩
    have hnk : nk ≤ 100000 := by have := hk.1; omega
    have hsz := prefs_size k
    have hb1 : Below w.heap.size w (w.alloc (.cells #[.int .i64 op, .slice A ns cs, .int .i64 mn, .int .i64 mx, .slice D nk ck] 31)) := (Below.refl _ _).alloc (Nat.le_refl _) _
    have hb2 := hb.trans (hb1.mono hb.size)
    have HB := Lib.hid hb1
    have hns : ns ≤ 2000000 := by have := hr.1.1.1; omega
    show Calls _ _ _ _ _
    simp only [prefs, List.getElem?_cons_zero, Option.getD_some]
    unfold nodeP
    by_cases h0 : op = 0
    · subst h0
      rw [if_pos rfl]
      go_enter Try.func8, Try.ntmps8
      go_wp2
      go_ret2
      exact ⟨rfl, HB.out⟩
    by_cases h1 : op = 1
    · subst h1
      rw [if_neg h0, if_pos rfl]
      have HC := Lib.hid (pchar_any s A ns cs _ (hr.1.1.below hb2 (Nat.le_refl _)) hcan hns)
      clear hKC hr hk hcan hsl hm0 hm1 hkl hkok ih hT
      go_enter Try.func8, Try.ntmps8
      go_wp2_with (go_at_call 13; (with_reducible refine HC.out.mono ?_); rintro e w1 ⟨rfl, hbc⟩; have H1 := Lib.hid hbc; clear hbc)
      go_ret2
      exact ⟨rfl, HB.out.trans (H1.out.mono HB.out.size)⟩
    by_cases h4 : op = 4
    · subst h4
      rw [if_neg h0, if_neg h1, if_pos rfl]
      have HC := Lib.hid (together_any (ck := ck) hKC hnk hsz _ hb2)
      clear hKC hr hk hcan hsl hm0 hm1 hkl hkok ih hT
      go_enter Try.func8, Try.ntmps8
      go_wp2_with (go_at_call 14; (with_reducible refine HC.out.mono ?_); rintro e w1 ⟨rfl, hbc⟩; have H1 := Lib.hid hbc; clear hbc)
      go_ret2
      exact ⟨rfl, HB.out.trans (H1.out.mono HB.out.size)⟩
    by_cases h5 : op = 5
    · subst h5
      rw [if_neg h0, if_neg h1, if_neg h4, if_pos rfl]
      have HC := Lib.hid (alts_any (ck := ck) hKC hnk hsz _ hb2)
      clear hKC hr hk hcan hsl hm0 hm1 hkl hkok ih hT
      go_enter Try.func8, Try.ntmps8
      go_wp2_with (go_at_call 15; (with_reducible refine HC.out.mono ?_); rintro e w1 ⟨rfl, hbc⟩; have H1 := Lib.hid hbc; clear hbc)
      go_ret2
      exact ⟨rfl, HB.out.trans (H1.out.mono HB.out.size)⟩
    by_cases h6 : op = 6
    · subst h6
      rw [if_neg h0, if_neg h1, if_neg h4, if_neg h5, if_pos rfl]
      have HC := Lib.hid (often_any (ck := ck) hKC hnk hsz 6 A ns cs mn mx hm0 hm1 _ hb2)
      clear hKC hr hk hcan hsl hm0 hm1 hkl hkok ih hT
      go_enter Try.func8, Try.ntmps8
      go_wp2_with (go_at_call 16; (with_reducible refine HC.out.mono ?_); rintro e w1 ⟨rfl, hbc⟩; have H1 := Lib.hid hbc; clear hbc)
      go_ret2
      exact ⟨rfl, HB.out.trans (H1.out.mono HB.out.size)⟩
    · rw [if_neg h0, if_neg h1, if_neg h4, if_neg h5, if_neg h6]
      clear hKC hr hk hcan hsl hm0 hm1 hkl hkok ih hT
      go_enter Try.func8, Try.ntmps8
      go_wp2
      go_ret2
      exact ⟨rfl, HB.out⟩
end Go.Proofs.Ytbhbdhjkicmecaa
/- The document's examples of lit. -/
namespace Go.Proofs.Ytbhbdhjkicmecaa
open Go Go.RowKit
set_option linter.unusedVariables false
set_option maxRecDepth 20000

def exTA : Wood := .cons 4 [] 0 0 (.cons 1 [(97, 97)] 0 0 .nil (.cons 1 [(98, 98)] 0 0 .nil (.cons 5 [] 0 0 (.cons 1 [(99, 99)] 0 0 .nil (.cons 1 [(100, 100)] 0 0 .nil .nil)) .nil))) .nil
def exTB : Wood := .cons 4 [] 0 0 (.cons 1 [(97, 97)] 0 0 .nil (.cons 6 [] 2 2 (.cons 1 [(98, 98)] 0 0 .nil .nil) .nil)) .nil
theorem exA_parse : parseT ⟨#[97, 98, 40, 99, 124, 100, 41]⟩ = some exTA := by kernel_rfl
theorem exB_parse : parseT ⟨#[97, 98, 123, 50, 125]⟩ = some exTB := by kernel_rfl
theorem exA_pre : (prefs exTA)[0]?.getD (ByteArray.empty, false) = (⟨#[97, 98]⟩, false) := by kernel_rfl
theorem exB_pre : (prefs exTB)[0]?.getD (ByteArray.empty, false) = (⟨#[97, 98, 98]⟩, true) := by kernel_rfl
theorem exA_ok : PreOk exTA := by
  simp [exTA, PreOk, Canon, CanonF, Wood.len]
theorem exB_ok : PreOk exTB := by
  simp [exTB, PreOk, Canon, CanonF, Wood.len]
theorem rparse_one {s : ByteArray} {T : Wood} (h : parseT s = some T) (hs : s.size ≤ 200) (w : World) : Calls Try.prog 7 #[.string s] w fun e w' => ∃ x : NV, e = .returned (.tuple #[x.val, .int .i64 0]) ∧ NodeIn (fun _ => True) w' x.val T ∧ Below w.heap.size w w' := by
  refine (rparse_any s w).mono fun e w' hv => ?_
  obtain ⟨hb, ⟨h1, _⟩ | ⟨_, h2, _⟩ | ⟨x, n, h1, h2, he, hN⟩⟩ := hv
  · omega
  · rw [h] at h2; cases h2
  · rw [h] at h2
    injection h2 with h2
    subst h2
    exact ⟨x, he, hN.one, hb⟩
theorem ind_ex (w : World) : Calls Try.prog 5 #[.string ⟨#[120, 97, 98]⟩, .string ⟨#[97, 98]⟩, .int .i64 0] w fun e w' => e = .returned (.int .i64 1) ∧ Below w.heap.size w w' := by
  refine (index_any ⟨#[120, 97, 98]⟩ ⟨#[97, 98]⟩ 0 0 rfl w (by decide) (by decide) (by omega)).mono ?_
  have p0 : ¬ Pl (nums ⟨#[120, 97, 98]⟩) (nums ⟨#[97, 98]⟩) 0 0 := by decide
  have p1 : Pl (nums ⟨#[120, 97, 98]⟩) (nums ⟨#[97, 98]⟩) 0 1 := by decide
  rintro e w' ⟨hb, ⟨q, h1, h2, rfl⟩ | ⟨h1, rfl⟩⟩
  · refine ⟨?_, hb⟩
    have : q = 1 := by
      rcases Nat.lt_trichotomy q 1 with h | h | h
      · obtain rfl : q = 0 := by omega
        exact absurd h1 p0
      · exact h
      · exact absurd p1 (h2 1 h)
    subst this
    rfl
  · exact absurd p1 (h1 1)
set_option maxHeartbeats 4000000 in
theorem awake12_any (w : World) : Calls Try.prog 4 #[] w fun e w' => e = .returned (.bool true) ∧ Below w.heap.size w w' := by
  have HPA := Lib.hid (rparse_one exA_parse (by decide) w)
  have HIx := Lib.hid ind_ex
  go_enter Try.func4, Try.ntmps4
  go_wp2_with (first
    | (go_at_call 7; (with_reducible refine HPA.out.mono ?_); rintro e w1 ⟨x, rfl, hN, hb⟩; have H1 := Lib.hid hb; have HCA := Lib.hid (prefix_any _ _ (Nat.le_refl _) exA_ok _ _ _ hN); have HPB := Lib.hid (rparse_one exB_parse (by decide) (w1.alloc (.cells #[.int .i64 x.op, .slice x.A x.ns x.cs, .int .i64 x.mn, .int .i64 x.mx, .slice x.D x.nk x.ck] 31))); rw [exA_pre] at HCA; clear hN hb; simp only [NV.val] at HCA ⊢)
    | (go_at_call 7; (with_reducible refine HPB.out.mono ?_); rintro e w2 ⟨y, rfl, hN, hb⟩; have H2 := Lib.hid hb; have HCB := Lib.hid (prefix_any _ _ (Nat.le_refl _) exB_ok _ _ _ hN); rw [exB_pre] at HCB; clear hN; simp only [NV.val] at HCB ⊢; have hbx := (hb.block w1.heap.size (by simp)).trans (heap_alloc_new w1 _); obtain ⟨y0, y1, y2, y3, y4, yf⟩ := box_facts (at_up hbx (.cells #[.int .i64 y.op, .slice y.A y.ns y.cs, .int .i64 y.mn, .int .i64 y.mx, .slice y.D y.nk y.ck] 31)); have HC1 := Lib.hid (HCA.out (w2.alloc (.cells #[.int .i64 y.op, .slice y.A y.ns y.cs, .int .i64 y.mn, .int .i64 y.mx, .slice y.D y.nk y.ck] 31)) ((((Below.refl w1.heap.size w1).alloc (Nat.le_refl _) _).trans (hb.mono (by simp))).alloc (Nat.le_trans (by simp) hb.size |> Nat.le_of_succ_le) _)); clear hb hbx)
    | (go_at_call 8; (with_reducible refine HC1.out.mono ?_); rintro e w3 ⟨rfl, hb⟩; have H3 := Lib.hid hb; have hbx := (hb.block w2.heap.size (by simp)).trans (heap_alloc_new w2 _); obtain ⟨z0, z1, z2, z3, z4, zf⟩ := box_facts hbx; have HC2 := Lib.hid (HCB.out w3 (((Below.refl w2.heap.size w2).alloc (Nat.le_refl _) _).trans (hb.mono (by simp)))); clear hb hbx)
    | (go_at_call 8; (with_reducible refine HC2.out.mono ?_); rintro e w4 ⟨rfl, hb⟩; have H4 := Lib.hid hb; clear hb)
    | (go_at_call 5; (with_reducible refine (HIx.out _).mono ?_); rintro e w5 ⟨rfl, hb⟩; have H5 := Lib.hid hb; clear hb))
  go_ret
  refine ⟨rfl, ?_⟩
  have b1 := H1.out.alloc H1.out.size (.cells #[.int .i64 x.op, .slice x.A x.ns x.cs, .int .i64 x.mn, .int .i64 x.mx, .slice x.D x.nk x.ck] 31)
  have b2 := b1.trans (H2.out.mono b1.size)
  have b3 := b2.alloc b2.size (.cells #[.int .i64 y.op, .slice y.A y.ns y.cs, .int .i64 y.mn, .int .i64 y.mx, .slice y.D y.nk y.ck] 31)
  have b4 := b3.trans (H3.out.mono b3.size)
  have b5 := b4.trans (H4.out.mono b4.size)
  exact b5.trans (H5.out.mono b5.size)
end Go.Proofs.Ytbhbdhjkicmecaa
/- The law of lit, with its example. -/
namespace Go.Proofs.Ytbhbdhjkicmecaa
open Go Go.RowKit
theorem litCountsW_any (T L : ByteArray) (a b : Nat) (ha : a < 256) (hb : b < 256) (w : World) :
    Calls Try.prog 3 #[.string T, .string L, .agg #[.int .u8 (a : Int), .int .u8 (b : Int)]] w fun e w' => e = .returned (.bool true) ∧ Below w.heap.size w w' := litCounts_any awake12_any T L a b ha hb w
end Go.Proofs.Ytbhbdhjkicmecaa
