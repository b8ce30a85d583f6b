/- The document's Ends: just which whole numbers, in a row that is new. -/
import Derived.Test.YtjpabeeokgfloaaDoorM03
import Derived.Test.YtjpabeeokgfloaaDoorM04
import Derived.Lib.ItoaNum
namespace Go.Proofs.YtjpabeeokgfloaaDoor
open Go Go.RowKit
set_option linter.unusedVariables false
set_option maxRecDepth 20000

def clampI (z : Int) : Int := if z < -2 then -2 else if 1114113 < z then 1114113 else z
/-- The numbers beside z, the first j of them. -/
def nearT (z : Int) : Nat → List Int
  | 0 => []
  | j + 1 => nearT z j ++ (if 0 ≤ clampI z + ((j : Int) - 1) ∧ clampI z + ((j : Int) - 1) ≤ 1114111 then [clampI z + ((j : Int) - 1)] else [])
/-- Beside both ends, the first t of them. -/
def bothT (p : Int × Int) : Nat → List Int
  | 0 => []
  | 1 => nearT p.1 3
  | _ => nearT p.1 3 ++ nearT p.2 3
def endsL (s : List (Int × Int)) : List Int := [0, 1114111] ++ s.flatMap fun p => bothT p 2
theorem endsL_snoc (s : List (Int × Int)) (p : Int × Int) : endsL (s ++ [p]) = endsL s ++ bothT p 2 := by
  unfold endsL
  rw [List.flatMap_append, ← List.append_assoc]
  simp
theorem nearT_yes {z : Int} {j : Nat} (h : 0 ≤ clampI z + ((j : Int) - 1) ∧ clampI z + ((j : Int) - 1) ≤ 1114111) : nearT z (j + 1) = nearT z j ++ [clampI z + ((j : Int) - 1)] := by rw [nearT, if_pos h]
theorem nearT_no {z : Int} {j : Nat} (h : ¬ (0 ≤ clampI z + ((j : Int) - 1) ∧ clampI z + ((j : Int) - 1) ≤ 1114111)) : nearT z (j + 1) = nearT z j := by rw [nearT, if_neg h, List.append_nil]

set_option maxHeartbeats 4000000 in
theorem rends_eq (s : List (Int × Int)) (A : Option Addr) (n c : Nat) (W : World) (hr : RowG W A n s) (hn : n ≤ 1000) :
    Calls Tryd.prog 51 #[.slice A n c] W fun e w' => ∃ (P : Option Addr) (q pc : Nat), e = .returned (.slice P q pc) ∧ w'.ownsRow W.heap.size 3 1 (.slice P q pc) q ((endsL s).map (.int .i64)) ∧ Below W.heap.size W w' ∧ q ≤ 2 + 6 * n := by
  have HR := Lib.hid hr; clear hr
  go_enter Tryd.func51, Tryd.ntmps51
  go_wp2
  go_loopw [3, 4] (fun vo vi wr => ∃ (k q pc : Nat) (P : Option Addr) (xs : List Int), vo = .slice P q pc ∧ vi = .int .i64 (k : Int) ∧ k ≤ n ∧ q ≤ 2 + 6 * k ∧ Hid (wr.ownsRow W.heap.size 3 1 (.slice P q pc) q (xs.map (.int .i64)) ∧ Below W.heap.size W wr ∧ xs = endsL (s.take k))) (fun _ vi _ => n - (intOf vi).toNat)
  case atStart =>
    exact ⟨0, 2, 2, _, [0, 1114111], rfl, rfl, Nat.zero_le _, by omega, Lib.hid ⟨⟨rfl, .inr ⟨W.heap.size, 2, _, rfl, Nat.le_refl _, heap_alloc_new W _, Nat.le_refl _, by unfold maxLen; omega, rfl, rfl⟩⟩, (Below.refl _ _).alloc (Nat.le_refl _) _, rfl⟩⟩
  case round =>
    obtain ⟨k, q, pc, P, xs, rfl, rfl, hk, hq, HO⟩ := hrel
    by_cases hlt : k < n
    · obtain ⟨b, o, rfl, hbw, hc⟩ := HR.out.2 (by omega)
      obtain ⟨c0, c1⟩ := hc k hlt
      have d0 := (HO.out.2.1.cell (p := ⟨b, o + k * 2, none⟩) hbw).trans c0
      have d1 := (HO.out.2.1.cell (p := ⟨b, o + k * 2 + 1, none⟩) hbw).trans c1
      have hts := take_snoc (t := s) (k := k) (by have := HR.out.1; omega)
      obtain ⟨p, hp⟩ : ∃ p, p = s.getD k (0, 0) := ⟨_, rfl⟩
      rw [← hp] at d0 d1 hts
      obtain ⟨x, y⟩ := p
      have HTS := Lib.hid hts
      clear hts
      clear hc c0 c1 hp
      dsimp only at d0 d1
      go_wp2
      go_region
      obtain ⟨W1, hW1⟩ : ∃ W1, W1 = (wr.alloc (.cells #[.int .i64 x, .int .i64 y] 3)).drew := ⟨_, rfl⟩
      rw [← hW1]
      obtain ⟨g, hg⟩ : ∃ g, g = wr.heap.size := ⟨_, rfl⟩
      rw [← hg]
      have hb1 : Below wr.heap.size wr W1 := by rw [hW1]; exact ((Below.refl _ _).alloc (Nat.le_refl _) _).drew
      have hblk : W1.heap[g]? = some (.cells #[.int .i64 x, .int .i64 y] 3 (0, 0)) := by rw [hW1, hg]; exact heap_alloc_new wr _
      have hne : (Value.slice P q pc).ownBlock ≠ some g := fun e => by have := (row_lt HO.out.1 e).2; omega
      have HO1 := Lib.hid (And.intro (own_kept HO.out.1 hb1) (And.intro (HO.out.2.1.trans (Below.mono hb1 HO.out.2.1.size)) (And.intro hblk (And.intro hne HO.out.2.2))))
      clear hW1 hg hb1 hblk hne d0 d1
      go_wp2
      go_loopw [3, 6] (fun vo vt wt => ∃ (t q2 pc2 : Nat) (P2 : Option Addr) (xs2 : List Int), vo = .slice P2 q2 pc2 ∧ vt = .int .i64 (t : Int) ∧ t ≤ 2 ∧ q2 ≤ 2 + 6 * k + 3 * t ∧ Hid (wt.ownsRow W.heap.size 3 1 (.slice P2 q2 pc2) q2 (xs2.map (.int .i64)) ∧ Below W.heap.size W wt ∧ wt.heap[g]? = some (.cells #[.int .i64 x, .int .i64 y] 3 (0, 0)) ∧ (Value.slice P2 q2 pc2).ownBlock ≠ some g ∧ xs2 = endsL (s.take k) ++ bothT (x, y) t)) (fun _ vt _ => 2 - (intOf vt).toNat)
      case atStart => exact ⟨0, q, pc, P, xs, rfl, rfl, by omega, by omega, Lib.hid ⟨HO1.out.1, HO1.out.2.1, HO1.out.2.2.1, HO1.out.2.2.2.1, by rw [HO1.out.2.2.2.2, bothT, List.append_nil]⟩⟩
      case round =>
        obtain ⟨t, q2, pc2, P2, xs2, rfl, rfl, ht, hq2, H2⟩ := hrel
        by_cases htl : t < 2
        · obtain ⟨z, hz, hbz⟩ : ∃ z, (#[.int .i64 x, .int .i64 y] : Array Value)[t]? = some (.int .i64 z) ∧ bothT (x, y) (t + 1) = bothT (x, y) t ++ nearT z 3 := by
            rcases (show t = 0 ∨ t = 1 by omega) with rfl | rfl
            · exact ⟨x, rfl, rfl⟩
            · exact ⟨y, rfl, rfl⟩
          have HBZ := Lib.hid hbz
          clear hbz
          have HZ := Lib.hid hz
          clear hz
          have d3 : (t : Int) < 2 := by omega
          go_wp2
          go_loopw [3, 7] (fun vo vd wd => ∃ (j q3 pc3 : Nat) (P3 : Option Addr) (xs3 : List Int), vo = .slice P3 q3 pc3 ∧ vd = .int .i64 ((j : Int) - 1) ∧ j ≤ 3 ∧ q3 ≤ 2 + 6 * k + 3 * t + j ∧ Hid (wd.ownsRow W.heap.size 3 1 (.slice P3 q3 pc3) q3 (xs3.map (.int .i64)) ∧ Below W.heap.size W wd ∧ wd.heap[g]? = some (.cells #[.int .i64 x, .int .i64 y] 3 (0, 0)) ∧ (Value.slice P3 q3 pc3).ownBlock ≠ some g ∧ xs3 = xs2 ++ nearT z j)) (fun _ vd _ => 3 - (intOf vd + 1).toNat)
          case atStart => exact ⟨0, q2, pc2, P2, xs2, rfl, rfl, by omega, by omega, Lib.hid ⟨H2.out.1, H2.out.2.1, H2.out.2.2.1, H2.out.2.2.2.1, by rw [nearT, List.append_nil]⟩⟩
          case round =>
            obtain ⟨j, q3, pc3, P3, xs3, rfl, rfl, hj, hq3, H3⟩ := hrel
            obtain ⟨d, hd⟩ : ∃ d : Int, d = (j : Int) - 1 := ⟨_, rfl⟩
            rw [← hd]
            by_cases hjl : j < 3
            · have hd1 : d ≤ 1 := by omega
              have hd0 : -1 ≤ d := by omega
              have HD := Lib.hid hd
              clear hd
              have cz := (cell_of_row _ g t _ _ (0, 0) H3.out.2.2.1).trans HZ.out
              have w1 : ∀ v : Int, -10 ≤ v → v ≤ 10000000 → IntKind.i64.wrap v = v := fun v h1 h2 => by rw [IntKind.wrap_i64]; omega
              rcases (show z < -2 ∨ (-2 ≤ z ∧ z ≤ 1114113) ∨ 1114113 < z by omega) with hz | ⟨hz1, hz2⟩ | hz
              · have n1 : ¬ (0 ≤ -2 + d) := by omega
                clear w1
                go_wp2
                exact ⟨⟨j + 1, q3, pc3, P3, xs3, rfl, by congr 1; have := HD.out; omega, by omega, by omega, Lib.hid ⟨H3.out.1, H3.out.2.1, H3.out.2.2.1, H3.out.2.2.2.1, by rw [nearT_no (by unfold clampI; have := HD.out; (repeat' split) <;> omega)]; exact H3.out.2.2.2.2⟩⟩, by simp [intOf]; have := HD.out; omega⟩
              · have n1 : ¬ z < -2 := by omega
                have n2 : ¬ 1114113 < z := by omega
                by_cases hv0 : 0 ≤ z + d
                · by_cases hv1 : z + d ≤ 1114111
                  · obtain ⟨P4, pc4, w4, happ, ho4, hb4, hk4⟩ := pushI_at H3.out.1 (by omega) H3.out.2.1 (z + d)
                    have hgl := (Array.getElem?_eq_some_iff.1 H3.out.2.2.1).1
                    have H4 := Lib.hid (And.intro ho4 (And.intro hb4 (And.intro ((hk4 g hgl H3.out.2.2.2.1).2.trans H3.out.2.2.1) (And.intro (hk4 g hgl H3.out.2.2.2.1).1 (show xs3 ++ [z + d] = xs2 ++ nearT z (j + 1) by rw [nearT_yes (by unfold clampI; have := HD.out; (repeat' split) <;> omega), H3.out.2.2.2.2, List.append_assoc, show clampI z + ((j : Int) - 1) = z + d by unfold clampI; have := HD.out; (repeat' split) <;> omega])))))
                    have HA := Lib.hid happ
                    clear happ ho4 hb4 hk4 hgl w1
                    go_wp2_with (at_builtin; refine wpList_append_run rfl _ _ 37 rfl rfl _ _ _ _ rfl rfl HA.out ?_)
                    exact ⟨⟨j + 1, q3 + 1, pc4, P4, xs3 ++ [z + d], rfl, by congr 1; have := HD.out; omega, by omega, by omega, H4⟩, by simp [intOf]; have := HD.out; omega⟩
                  · clear w1
                    go_wp2
                    exact ⟨⟨j + 1, q3, pc3, P3, xs3, rfl, by congr 1; have := HD.out; omega, by omega, by omega, Lib.hid ⟨H3.out.1, H3.out.2.1, H3.out.2.2.1, H3.out.2.2.2.1, by rw [nearT_no (by unfold clampI; have := HD.out; (repeat' split) <;> omega)]; exact H3.out.2.2.2.2⟩⟩, by simp [intOf]; have := HD.out; omega⟩
                · clear w1
                  go_wp2
                  exact ⟨⟨j + 1, q3, pc3, P3, xs3, rfl, by congr 1; have := HD.out; omega, by omega, by omega, Lib.hid ⟨H3.out.1, H3.out.2.1, H3.out.2.2.1, H3.out.2.2.2.1, by rw [nearT_no (by unfold clampI; have := HD.out; (repeat' split) <;> omega)]; exact H3.out.2.2.2.2⟩⟩, by simp [intOf]; have := HD.out; omega⟩
              · have n1 : ¬ z < -2 := by omega
                have n2 : ¬ (1114113 + d ≤ 1114111) := by omega
                have n3 : 0 ≤ 1114113 + d := by omega
                clear w1
                go_wp2
                exact ⟨⟨j + 1, q3, pc3, P3, xs3, rfl, by congr 1; have := HD.out; omega, by omega, by omega, Lib.hid ⟨H3.out.1, H3.out.2.1, H3.out.2.2.1, H3.out.2.2.2.1, by rw [nearT_no (by unfold clampI; have := HD.out; (repeat' split) <;> omega)]; exact H3.out.2.2.2.2⟩⟩, by simp [intOf]; have := HD.out; omega⟩
            · have hj3 : j = 3 := by omega
              subst hj3
              have hd2 : d = 2 := by omega
              subst hd2
              go_wp2
              exact ⟨⟨t + 1, q3, pc3, P3, xs3, rfl, by go_num, by omega, by omega, Lib.hid ⟨H3.out.1, H3.out.2.1, H3.out.2.2.1, H3.out.2.2.2.1, by rw [HBZ.out, ← List.append_assoc, ← H2.out.2.2.2.2]; exact H3.out.2.2.2.2⟩⟩, by simp [intOf]; omega⟩
        · have ht2 : t = 2 := by omega
          subst ht2
          go_wp2
          exact ⟨⟨k + 1, q2, pc2, P2, xs2, rfl, by go_num, by omega, by omega, Lib.hid ⟨H2.out.1, H2.out.2.1, by rw [HTS.out, endsL_snoc]; exact H2.out.2.2.2.2⟩⟩, by simp [intOf]; omega⟩
    · go_wp2
      go_ret
      have hkn : k = n := by omega
      have hx := HO.out.2.2
      rw [List.take_of_length_le (by have := HR.out.1; omega)] at hx
      exact ⟨P, q, pc, rfl, hx ▸ HO.out.1, HO.out.2.1, by omega⟩
end Go.Proofs.YtjpabeeokgfloaaDoor
/- Trees in plain words: rows of nodes, how great they are, how they are shown. -/
namespace Go.Proofs.YtjpabeeokgfloaaDoor
open Go Go.RowKit
set_option linter.unusedVariables false

/-- A row of nodes: the first one's fields, its kids, and the nodes behind it. -/
inductive Wood where
  | nil
  | cons (op : Int) (set : List (Int × Int)) (mn mx : Int) (kids next : Wood)

namespace Wood
def len : Wood → Nat
  | nil => 0
  | cons _ _ _ _ _ x => x.len + 1
/-- How many nodes, the kids' too. -/
def size : Wood → Nat
  | nil => 0
  | cons _ _ _ _ k x => 1 + k.size + x.size
def app : Wood → Wood → Wood
  | nil, b => b
  | cons o s a z k x, b => cons o s a z k (x.app b)
/-- The j-th node alone. -/
def nth : Wood → Nat → Wood
  | nil, _ => nil
  | cons o s a z k _, 0 => cons o s a z k nil
  | cons _ _ _ _ _ x, j + 1 => x.nth j
/-- The first k nodes. -/
def take : Wood → Nat → Wood
  | nil, _ => nil
  | _, 0 => nil
  | cons o s a z k x, j + 1 => cons o s a z k (x.take j)
def same : Wood → Wood → Bool
  | nil, nil => true
  | cons o s a z k x, cons o' s' a' z' k' x' => (o == o' && (a == a' && (z == z' && (s == s' && (k.same k' && x.same x')))))
  | _, _ => false
/-- One node's depth below it. -/
def deep : Wood → Nat
  | nil => 0
  | cons _ _ _ _ k x => max (k.deep + 1) x.deep
/-- The greatest number of kids or ranges that a node has. -/
def wide : Wood → Nat
  | nil => 0
  | cons _ s _ _ k x => max (max k.len s.length) (max k.wide x.wide)

theorem same_iff : ∀ a b : Wood, a.same b = true ↔ a = b
  | nil, nil => by simp [same]
  | nil, cons .. => by simp [same]
  | cons .., nil => by simp [same]
  | cons o s a z k x, cons o' s' a' z' k' x' => by
    rw [same, Bool.and_eq_true, Bool.and_eq_true, Bool.and_eq_true, Bool.and_eq_true, Bool.and_eq_true, same_iff k k', same_iff x x']
    simp only [beq_iff_eq, cons.injEq]
    constructor
    · rintro ⟨h1, h2, h3, h4, h5, h6⟩; exact ⟨h1, h4, h2, h3, h5, h6⟩
    · rintro ⟨h1, h4, h2, h3, h5, h6⟩; exact ⟨h1, h2, h3, h4, h5, h6⟩
theorem same_refl (a : Wood) : a.same a = true := (same_iff a a).2 rfl
theorem same_len {a b : Wood} (h : a.len ≠ b.len) : a.same b = false := by
  cases hx : a.same b with
  | false => rfl
  | true => rw [(same_iff a b).1 hx] at h; exact absurd rfl h
theorem nth_len : ∀ (a : Wood) (j : Nat), j < a.len → (a.nth j).len = 1
  | nil, _, h => by simp [len] at h
  | cons .., 0, _ => rfl
  | cons _ _ _ _ _ x, j + 1, h => nth_len x j (by simp only [len] at h; omega)
theorem same_nth : ∀ (a b : Wood), a.len = b.len → (a.same b = true ↔ ∀ j, j < a.len → (a.nth j).same (b.nth j) = true)
  | nil, nil, _ => by simp [same, len]
  | nil, cons .., h => by simp [len] at h
  | cons .., nil, h => by simp [len] at h
  | cons o s a z k x, cons o' s' a' z' k' x', h => by
    have ih := same_nth x x' (by simp only [len] at h; omega)
    constructor
    · intro hs j hj
      rw [(same_iff _ _).1 hs]
      exact same_refl _
    · intro hj
      have h0 := hj 0 (by simp [len])
      have h1 := ih.2 fun j hx => hj (j + 1) (by simp only [len]; omega)
      rw [same_iff] at h0 h1 ⊢
      simp only [nth, cons.injEq] at h0
      obtain ⟨e1, e2, e3, e4, e5, _⟩ := h0
      rw [e1, e2, e3, e4, e5, h1]
theorem take_len : ∀ (a : Wood) (j : Nat), j ≤ a.len → (a.take j).len = j
  | nil, 0, _ => rfl
  | nil, _ + 1, h => by simp [len] at h
  | cons .., 0, _ => rfl
  | cons _ _ _ _ _ x, j + 1, h => by simp only [take, len]; rw [take_len x j (by simp only [len] at h; omega)]
theorem take_all : ∀ (a : Wood), a.take a.len = a
  | nil => rfl
  | cons _ _ _ _ _ x => by simp only [len, take]; rw [take_all x]
theorem take_zero : ∀ (a : Wood), a.take 0 = nil
  | nil => rfl
  | cons .. => rfl
theorem take_succ : ∀ (a : Wood) (j : Nat), j < a.len → a.take (j + 1) = (a.take j).app (a.nth j)
  | nil, _, h => by simp [len] at h
  | cons _ _ _ _ _ x, 0, _ => by simp only [take, app, nth, take_zero]
  | cons _ _ _ _ _ x, j + 1, h => by simp only [take, app, nth]; rw [← take_succ x j (by simp only [len] at h; omega)]
theorem size_app : ∀ a b : Wood, (a.app b).size = a.size + b.size
  | nil, b => by simp [app, size]
  | cons _ _ _ _ k x, b => by simp only [app, size]; rw [size_app x b]; omega
theorem len_app : ∀ a b : Wood, (a.app b).len = a.len + b.len
  | nil, b => by simp [app, len]
  | cons _ _ _ _ k x, b => by simp only [app, len]; rw [len_app x b]; omega
theorem app_nil : ∀ a : Wood, a.app nil = a
  | nil => rfl
  | cons _ _ _ _ k x => by simp only [app]; rw [app_nil x]
theorem app_assoc : ∀ a b c : Wood, (a.app b).app c = a.app (b.app c)
  | nil, _, _ => rfl
  | cons _ _ _ _ _ x, b, c => by simp only [app]; rw [app_assoc x b c]
theorem one_of_len : ∀ {a : Wood}, a.len = 1 → ∃ o s x z k, a = cons o s x z k nil
  | nil, h => by simp [len] at h
  | cons o s x z k nil, _ => ⟨o, s, x, z, k, rfl⟩
  | cons _ _ _ _ _ (cons ..), h => by simp [len] at h
end Wood

/-! ### How they are shown -/
def digB (n : Int) : ByteArray := ⟨(Lib.itoa n).toArray⟩
def strB (l : List UInt8) : ByteArray := ⟨l.toArray⟩
/-- One behind the other, with a text between. -/
def joinB (sep : ByteArray) : List ByteArray → ByteArray
  | [] => ByteArray.empty
  | [x] => x
  | x :: y :: l => x ++ (sep ++ joinB sep (y :: l))
theorem ba_assoc (a b c : ByteArray) : a ++ b ++ c = a ++ (b ++ c) := ByteArray.append_assoc
theorem ba_nil (a : ByteArray) : a ++ ByteArray.empty = a := ByteArray.append_empty
theorem nil_ba (a : ByteArray) : ByteArray.empty ++ a = a := ByteArray.empty_append
theorem joinB_snoc (sep y : ByteArray) : ∀ l : List ByteArray, joinB sep (l ++ [y]) = if l = [] then y else joinB sep l ++ sep ++ y
  | [] => rfl
  | [x] => by simp [joinB, ba_assoc]
  | x :: z :: l => by
    have ih := joinB_snoc sep y (z :: l)
    rw [if_neg (by simp)] at ih ⊢
    show x ++ (sep ++ joinB sep ((z :: l) ++ [y])) = _
    rw [ih]
    simp only [joinB, ba_assoc]
def rngB (p : Int × Int) : ByteArray := if p.2 = p.1 then digB p.1 else digB p.1 ++ (strB [45] ++ digB p.2)
def setB (s : List (Int × Int)) : ByteArray := joinB (strB [32]) (s.map rngB)
theorem setB_snoc (s : List (Int × Int)) (p : Int × Int) : setB (s ++ [p]) = if s = [] then rngB p else setB s ++ strB [32] ++ rngB p := by
  unfold setB
  rw [List.map_append, List.map_cons, List.map_nil, joinB_snoc]
  simp
/-- A node by its Op, with its kids' text. -/
def nodeB (op : Int) (s : List (Int × Int)) (mn mx : Int) (kids : ByteArray) : ByteArray :=
  if op = 0 then strB [101, 109, 112, 116, 121]
  else if op = 1 then strB [99, 104, 97, 114, 123] ++ setB s ++ strB [125]
  else if op = 2 then strB [98, 101, 103, 105, 110]
  else if op = 3 then strB [101, 110, 100]
  else if op = 4 then strB [99, 97, 116, 40] ++ kids ++ strB [41]
  else if op = 5 then strB [97, 108, 116, 40] ++ kids ++ strB [41]
  else if op = 6 then strB [114, 101, 112, 123] ++ digB mn ++ strB [32] ++ digB mx ++ strB [125, 40] ++ kids ++ strB [41]
  else strB [63]
def showW : Wood → List ByteArray
  | .nil => []
  | .cons op s mn mx k x => nodeB op s mn mx (joinB (strB [44]) (showW k)) :: showW x
def kidsB (k : Wood) : ByteArray := joinB (strB [44]) (showW k)
theorem showW_app : ∀ a b : Wood, showW (a.app b) = showW a ++ showW b
  | .nil, _ => rfl
  | .cons _ _ _ _ _ x, b => by simp only [Wood.app, showW]; rw [showW_app x b]; rfl
theorem showW_len : ∀ a : Wood, (showW a).length = a.len
  | .nil => rfl
  | .cons _ _ _ _ _ x => by simp only [showW, Wood.len, List.length_cons]; rw [showW_len x]
/-- One node's text. -/
def oneB (a : Wood) : ByteArray := kidsB a
theorem kidsB_take (a : Wood) (j : Nat) (h : j < a.len) : kidsB (a.take (j + 1)) = if j = 0 then oneB (a.nth j) else kidsB (a.take j) ++ strB [44] ++ oneB (a.nth j) := by
  have h1 := Wood.nth_len a j h
  obtain ⟨o, s, x, z, k, e⟩ := Wood.one_of_len h1
  unfold kidsB oneB
  rw [Wood.take_succ a j h, showW_app, e]
  simp only [showW]
  rw [joinB_snoc]
  have hl := showW_len (a.take j)
  rw [Wood.take_len a j (by omega)] at hl
  by_cases hj : j = 0
  · rw [if_pos hj, if_pos (List.eq_nil_of_length_eq_zero (by omega))]
    simp [kidsB, showW, joinB]
  · rw [if_neg hj, if_neg (by intro e2; rw [e2] at hl; simp at hl; omega)]
    simp [kidsB, showW, joinB]
end Go.Proofs.YtjpabeeokgfloaaDoor
/- Patterns in plain words, over code points: sets, tokens, trees. -/
namespace Go.Proofs.YtjpabeeokgfloaaDoor
open Go Go.RowKit
set_option linter.unusedVariables false

/-! ### The set of the numbers that a test says -/
def setGo (f : Int → Bool) : Nat → List (Int × Int)
  | 0 => []
  | k + 1 =>
    if f (1114112 - ((k + 1 : Nat) : Int)) = true then
      match setGo f k with
      | [] => [(1114112 - ((k + 1 : Nat) : Int), 1114112 - ((k + 1 : Nat) : Int))]
      | p :: s => if p.1 = 1114112 - ((k + 1 : Nat) : Int) + 1 then (1114112 - ((k + 1 : Nat) : Int), p.2) :: s else (1114112 - ((k + 1 : Nat) : Int), 1114112 - ((k + 1 : Nat) : Int)) :: p :: s
    else setGo f k
theorem setGo_is (f : Int → Bool) : ∀ k : Nat, k ≤ 1114112 → CanonF (1114112 - (k : Int)) (setGo f k) ∧ ∀ r, hasL (setGo f k) r = (decide (1114112 - (k : Int) ≤ r ∧ r ≤ 1114111) && f r)
  | 0, _ => ⟨trivial, fun r => by rw [setGo, hasL_nil, decide_eq_false (by omega), Bool.false_and]⟩
  | k + 1, hk => by
    obtain ⟨h1, h2⟩ := setGo_is f k (by omega)
    rw [setGo]
    obtain ⟨L, hL⟩ : ∃ L : Int, L = 1114112 - ((k + 1 : Nat) : Int) := ⟨_, rfl⟩
    have e : (1114112 : Int) - (k : Int) = L + 1 := by omega
    rw [← hL]
    rw [e] at h1 h2
    have hL0 : 0 ≤ L ∧ L ≤ 1114111 := by omega
    obtain ⟨t, ht⟩ : ∃ t, t = setGo f k := ⟨_, rfl⟩
    rw [← ht] at h1 h2 ⊢
    clear ht
    by_cases hf : f L = true
    · rw [if_pos hf]
      have done : ∀ u, CanonF L u → (∀ r, hasL u r = (decide (r = L) || hasL t r)) → CanonF L u ∧ ∀ r, hasL u r = (decide (L ≤ r ∧ r ≤ 1114111) && f r) := by
        intro u hu hm
        refine ⟨hu, fun r => ?_⟩
        rw [hm r, h2 r]
        by_cases hr : r = L
        · subst hr
          rw [hf, decide_eq_true rfl, Bool.true_or, decide_eq_true (by omega), Bool.true_and]
        · rw [decide_eq_false hr, Bool.false_or]
          congr 1
          apply decide_eq_decide.2
          omega
      rcases t with _ | ⟨p, s⟩
      · refine done [(L, L)] ⟨Int.le_refl _, Int.le_refl _, hL0.2, trivial⟩ fun r => ?_
        rw [hasL_cons, hasL_nil, Bool.or_false, Bool.or_false]
        apply decide_eq_decide.2
        dsimp only
        omega
      · obtain ⟨q1, q2, q3, q4⟩ := h1
        by_cases hp : p.1 = L + 1
        · show CanonF L (if p.1 = L + 1 then _ else _) ∧ _
          dsimp only
          rw [if_pos hp]
          refine done ((L, p.2) :: s) ⟨Int.le_refl _, by dsimp only; omega, q3, q4⟩ fun r => ?_
          rw [hasL_cons, hasL_cons, ← Bool.or_assoc, ← Bool.decide_or]
          congr 1
          apply decide_eq_decide.2
          dsimp only
          omega
        · dsimp only
          rw [if_neg hp]
          refine done ((L, L) :: p :: s) ⟨Int.le_refl _, Int.le_refl _, hL0.2, by dsimp only; omega, q2, q3, q4⟩ fun r => ?_
          rw [hasL_cons]
          congr 1
          apply decide_eq_decide.2
          dsimp only
          omega
    · rw [if_neg hf]
      refine ⟨h1.mono (by omega), fun r => ?_⟩
      rw [h2 r]
      by_cases hr : r = L
      · subst hr
        rw [Bool.eq_false_iff.2 hf, Bool.and_false, Bool.and_false]
      · congr 1
        apply decide_eq_decide.2
        omega
/-- The set of the numbers from 0 to 10ffff for which f is true. -/
def setOf (f : Int → Bool) : List (Int × Int) := setGo f 1114112
theorem setOf_canon (f : Int → Bool) : Canon (setOf f) := (setGo_is f 1114112 (Nat.le_refl _)).1
theorem setOf_has (f : Int → Bool) (r : Int) : hasL (setOf f) r = (decide (0 ≤ r ∧ r ≤ 1114111) && f r) := (setGo_is f 1114112 (Nat.le_refl _)).2 r
attribute [irreducible] setOf
theorem setOf_one {f : Int → Bool} {s : List (Int × Int)} (hc : Canon s) (h : ∀ r, hasL s r = (decide (0 ≤ r ∧ r ≤ 1114111) && f r)) : s = setOf f :=
  canon_one hc (setOf_canon f) fun r => (h r).trans (setOf_has f r).symm

/-! ### Tokens -/
/-- A token: kind 0: one point of a set; 1: a bar, a parenthesis, a beginning, an end (r); 2: a count. -/
structure TokL where
  kind : Int
  r : Int
  set : List (Int × Int)
  mn : Int
  mx : Int
def tokC (s : List (Int × Int)) : TokL := ⟨0, 0, s, 0, 0⟩
def tokS (r : Int) : TokL := ⟨1, r, [], 0, 0⟩
def tokN (a b : Int) : TokL := ⟨2, 0, [], a, b⟩

def namedS (r : Int) : List (Int × Int) := if r = 100 then [(48, 57)] else if r = 119 then [(48, 57), (65, 90), (95, 95), (97, 122)] else if r = 115 then [(9, 13), (32, 32)] else []
/-- What stands for itself behind a backslash. -/
def signL : List Int := [46, 94, 36, 124, 40, 41, 91, 93, 123, 125, 42, 43, 63, 92, 45]
/-- What stands behind a backslash: its set; is it a point? -/
def escL (r : Int) : Option (List (Int × Int) × Bool) :=
  if r = 100 ∨ r = 119 ∨ r = 115 then some (namedS r, false)
  else if r = 68 ∨ r = 87 ∨ r = 83 then some (setOf fun x => !hasL (namedS (r + 32)) x, false)
  else if r = 110 then some ([(10, 10)], true)
  else if r = 114 then some ([(13, 13)], true)
  else if r = 116 then some ([(9, 9)], true)
  else if r ∈ signL then some ([(r, r)], true)
  else none
/-- A point of a class, and what is behind it. -/
def ptL : List Int → Option (List (Int × Int) × Bool × List Int)
  | [] => none
  | r :: l =>
    if r = 91 ∨ r = 93 ∨ r = 94 ∨ r = 45 then none
    else if r = 92 then
      match l with
      | [] => none
      | e :: l' => (escL e).map fun p => (p.1, p.2, l')
    else some ([(r, r)], true, l)
/-- A part of a class, and what is behind it. -/
def partL (l : List Int) : Option (List (Int × Int) × List Int) :=
  match ptL l with
  | none => none
  | some (s, is, l1) =>
    match l1 with
    | 45 :: l2 =>
      if is = true then
        match ptL l2 with
        | some (t, true, l3) => if (t.headD (0, 0)).1 < (s.headD (0, 0)).1 then none else some ([((s.headD (0, 0)).1, (t.headD (0, 0)).1)], l3)
        | _ => none
      else some (s, l1)
    | _ => some (s, l1)
/-- The parts of a class: at least one, up to its end. -/
def partsL : Nat → List Int → List (Int × Int) → Bool → Option (List (Int × Int) × List Int)
  | 0, _, _, _ => none
  | f + 1, l, all, more =>
    match more, l with
    | true, 93 :: l' => some (all, l')
    | _, _ =>
      match partL l with
      | none => none
      | some (s, l1) => partsL f l1 (all ++ s) true
/-- A class behind its bracket. -/
def classL (l : List Int) : Option (List (Int × Int) × List Int) :=
  match l with
  | 94 :: l' => (partsL (l'.length + 1) l' [] false).map fun p => (setOf fun x => !hasL p.1 x, p.2)
  | _ => (partsL (l.length + 1) l [] false).map fun p => (setOf fun x => hasL p.1 x, p.2)
def isDig (r : Int) : Bool := decide (48 ≤ r) && decide (r ≤ 57)
/-- One or two digits. -/
def numL (l : List Int) : Option (Int × List Int) :=
  match l with
  | a :: b :: l' =>
    if isDig a = true then
      if isDig b = true then
        if 10 * (a - 48) + (b - 48) > 50 then none else some (10 * (a - 48) + (b - 48), l')
      else some (a - 48, b :: l')
    else none
  | [a] => if isDig a = true then some (a - 48, []) else none
  | [] => none
/-- A count behind its brace. -/
def braceL (l : List Int) : Option (TokL × List Int) :=
  match numL l with
  | some (a, 125 :: l') => some (tokN a a, l')
  | some (a, 44 :: 125 :: l') => some (tokN a (-1), l')
  | some (a, 44 :: l') =>
    match numL l' with
    | some (b, 125 :: l'') => if b < a then none else some (tokN a b, l'')
    | _ => none
  | _ => none
/-- The first token, and what is behind it. -/
def tokL : List Int → Option (TokL × List Int)
  | [] => none
  | r :: l =>
    if r = 124 ∨ r = 40 ∨ r = 41 ∨ r = 94 ∨ r = 36 then some (tokS r, l)
    else if r = 42 then some (tokN 0 (-1), l)
    else if r = 43 then some (tokN 1 (-1), l)
    else if r = 63 then some (tokN 0 1, l)
    else if r = 123 then braceL l
    else if r = 46 then some (tokC [(0, 9), (11, 1114111)], l)
    else if r = 91 then (classL l).map fun p => (tokC p.1, p.2)
    else if r = 92 then
      match l with
      | [] => none
      | e :: l' => (escL e).map fun p => (tokC p.1, l')
    else if r = 93 ∨ r = 125 then none
    else some (tokC [(r, r)], l)
def toksL : Nat → List Int → Option (List TokL)
  | _, [] => some []
  | 0, _ :: _ => none
  | f + 1, r :: l =>
    match tokL (r :: l) with
    | none => none
    | some (t, l') => (toksL f l').map fun ts => t :: ts

/-! ### Trees -/
def leaf (op : Int) (s : List (Int × Int)) : Wood := .cons op s 0 0 .nil .nil
def zeroN : Wood := leaf 0 []
/-- One node, or more of them under an Op. -/
def oneN (op : Int) (l : Wood) : Wood :=
  match l with
  | .nil => zeroN
  | .cons o s a z k .nil => .cons o s a z k .nil
  | .cons o s a z k x => .cons op [] 0 0 (.cons o s a z k x) .nil
/-- The last node put under a count. -/
def repLast (mn mx : Int) : Wood → Wood
  | .nil => .nil
  | .cons o s a z k .nil => .cons 6 [] mn mx (.cons o s a z k .nil) .nil
  | .cons o s a z k x => .cons o s a z k (repLast mn mx x)
/-- Alternatives that are through. -/
def finN (alts pieces : Wood) : Wood := oneN 5 (alts.app (oneN 4 pieces))
/-- Tokens gone through one by one: what stands in open parentheses is kept for when they are closed. -/
def runT (D : Nat) : List TokL → List (Wood × Wood) → Wood → Wood → Bool → Option Wood
  | [], [], a, p, _ => some (finN a p)
  | [], _ :: _, _, _, _ => none
  | t :: l, st, a, p, loose =>
    if t.kind = 0 then runT D l st a (p.app (leaf 1 t.set)) true
    else if t.kind = 2 then (if loose = true then runT D l st a (repLast t.mn t.mx p) false else none)
    else if t.r = 124 then runT D l st (a.app (oneN 4 p)) .nil false
    else if t.r = 94 then runT D l st a (p.app (leaf 2 [])) false
    else if t.r = 36 then runT D l st a (p.app (leaf 3 [])) false
    else if t.r = 41 then
      match st with
      | [] => none
      | (a', p') :: st' => runT D l st' a' (p'.app (finN a p)) true
    else if D + st.length < 10 then runT D l ((a, p) :: st) .nil .nil false
    else none
/-- A pattern's tree, out of its code points. -/
def treeL (l : List Int) : Option Wood := (toksL l.length l).bind fun ts => runT 0 ts [] .nil .nil false
end Go.Proofs.YtjpabeeokgfloaaDoor
/- The document's way to make a set between the ends of ranges, in plain words: it is the set. -/
namespace Go.Proofs.YtjpabeeokgfloaaDoor
open Go Go.RowKit
set_option linter.unusedVariables false

/-! ### Ends in order -/
def insI : List Int → Int → List Int
  | [], e => [e]
  | x :: xs, e => if x < e then x :: insI xs e else if x = e then x :: xs else e :: x :: xs
def Asc (l : List Int) : Prop := l.Pairwise (· < ·)
theorem insI_mem (e r : Int) : ∀ l : List Int, r ∈ insI l e ↔ r ∈ l ∨ r = e
  | [] => by simp [insI]
  | x :: xs => by
    rw [insI]
    split
    · rw [List.mem_cons, insI_mem e r xs, List.mem_cons, or_assoc]
    · split
      · rename_i h; subst h
        constructor
        · exact .inl
        · rintro (h | rfl)
          · exact h
          · exact List.mem_cons_self
      · rw [List.mem_cons, Or.comm]
theorem insI_asc (e : Int) : ∀ l : List Int, Asc l → Asc (insI l e)
  | [], _ => by unfold Asc insI; simp
  | x :: xs, h => by
    unfold Asc at h ⊢
    rw [List.pairwise_cons] at h
    rw [insI]
    split
    · rw [List.pairwise_cons]
      refine ⟨fun r hr => ?_, insI_asc e xs h.2⟩
      rcases (insI_mem e r xs).1 hr with hr | rfl
      · exact h.1 r hr
      · assumption
    · split
      · rw [List.pairwise_cons]; exact h
      · rw [List.pairwise_cons, List.pairwise_cons]
        refine ⟨fun r hr => ?_, h⟩
        rcases List.mem_cons.1 hr with rfl | hr
        · omega
        · have := h.1 r hr; omega
def sortE (es : List Int) : List Int := es.foldl insI []
theorem foldl_ins (es : List Int) : ∀ l : List Int, Asc l → Asc (es.foldl insI l) ∧ ∀ r, r ∈ es.foldl insI l ↔ r ∈ l ∨ r ∈ es := by
  induction es with
  | nil => intro l h; exact ⟨h, fun r => by simp⟩
  | cons e es ih =>
    intro l h
    obtain ⟨h1, h2⟩ := ih (insI l e) (insI_asc e l h)
    refine ⟨h1, fun r => ?_⟩
    rw [List.foldl_cons, h2 r, insI_mem, List.mem_cons, or_assoc]
theorem sortE_asc (es : List Int) : Asc (sortE es) := (foldl_ins es [] List.Pairwise.nil).1
theorem sortE_mem (es : List Int) (r : Int) : r ∈ sortE es ↔ r ∈ es := by
  rw [sortE, (foldl_ins es [] List.Pairwise.nil).2 r]; simp
theorem sortE_snoc (es : List Int) (e : Int) : sortE (es ++ [e]) = insI (sortE es) e := by simp [sortE]
/-- Where e is put, by index. -/
theorem insI_at (e : Int) : ∀ (l : List Int) (k : Nat), k ≤ l.length → (∀ j (h : j < l.length), j < k → l[j] < e) → (∀ h : k < l.length, ¬ l[k] < e) → insI l e = if ∃ h : k < l.length, l[k] = e then l else l.take k ++ e :: l.drop k
  | [], k, hk, _, _ => by
    have : k = 0 := by simpa using hk
    subst this
    rw [if_neg (by rintro ⟨h, _⟩; simp at h)]
    rfl
  | x :: xs, 0, _, _, h2 => by
    have hx := h2 (by simp)
    rw [List.getElem_cons_zero] at hx
    rw [insI, if_neg hx]
    by_cases he : x = e
    · rw [if_pos he, if_pos ⟨by simp, by simpa using he⟩]
    · rw [if_neg he, if_neg (by rintro ⟨_, h⟩; exact he (by simpa using h))]
      rfl
  | x :: xs, k + 1, hk, h1, h2 => by
    have hx := h1 0 (by simp) (by omega)
    rw [List.getElem_cons_zero] at hx
    have ih := insI_at e xs k (by simpa using hk) (fun j h hj => by have := h1 (j + 1) (by simpa using h) (by omega); simpa using this) (fun h => by have := h2 (by simpa using h); simpa using this)
    rw [insI, if_pos hx, ih]
    by_cases hc : ∃ h : k < xs.length, xs[k] = e
    · rw [if_pos hc, if_pos (by obtain ⟨h, e1⟩ := hc; exact ⟨by simpa using h, by simpa using e1⟩)]
    · rw [if_neg hc, if_neg (by rintro ⟨h, e1⟩; exact hc ⟨by simpa using h, by simpa using e1⟩)]
      rfl

/-! ### What lies between neighbours -/
theorem nearT_mem (z r : Int) (h0 : 0 ≤ z) (h1 : z ≤ 1114111) : r ∈ nearT z 3 ↔ (r = z - 1 ∨ r = z ∨ r = z + 1) ∧ 0 ≤ r ∧ r ≤ 1114111 := by
  have hc : clampI z = z := by unfold clampI; rw [if_neg (by omega), if_neg (by omega)]
  have hm : ∀ (l : List Int) (P : Prop) [Decidable P] (v : Int), r ∈ l ++ (if P then [v] else []) ↔ r ∈ l ∨ (P ∧ r = v) := by
    intro l P _ v
    rw [List.mem_append]
    by_cases h : P
    · rw [if_pos h]; simp [h]
    · rw [if_neg h]; simp [h]
  rw [nearT, hm, nearT, hm, nearT, hm, nearT, hc]
  simp only [List.not_mem_nil, false_or]
  omega
theorem endsL_mem {s : List (Int × Int)} {p : Int × Int} (hp : p ∈ s) (hw : 0 ≤ p.1 ∧ p.1 ≤ p.2 ∧ p.2 ≤ 1114111) {r : Int} (hr : (r = p.1 - 1 ∨ r = p.1 ∨ r = p.2 ∨ r = p.2 + 1) ∧ 0 ≤ r ∧ r ≤ 1114111) : r ∈ endsL s := by
  unfold endsL
  rw [List.mem_append, List.mem_flatMap]
  refine .inr ⟨p, hp, ?_⟩
  show r ∈ nearT p.1 3 ++ nearT p.2 3
  rw [List.mem_append, nearT_mem _ _ hw.1 (by omega), nearT_mem _ _ (by omega) hw.2.2]
  omega
theorem endsL_in {s : List (Int × Int)} {r : Int} (h : r ∈ endsL s) : 0 ≤ r ∧ r ≤ 1114111 := by
  have hn : ∀ (z : Int) (j : Nat), r ∈ nearT z j → 0 ≤ r ∧ r ≤ 1114111 := by
    intro z j
    induction j with
    | zero => intro h; cases h
    | succ j ih =>
      intro h
      rw [nearT, List.mem_append] at h
      rcases h with h | h
      · exact ih h
      · split at h
        · rw [List.mem_singleton] at h; omega
        · cases h
  unfold endsL at h
  rw [List.mem_append, List.mem_flatMap] at h
  rcases h with h | ⟨p, _, h⟩
  · simp at h; omega
  · have h : r ∈ nearT p.1 3 ++ nearT p.2 3 := h
    rw [List.mem_append] at h
    rcases h with h | h
    · exact hn _ _ h
    · exact hn _ _ h
/-- Nothing of the ends lies between a and b: either they are neighbours, or all from a to b are alike. -/
theorem alike {s : List (Int × Int)} (hw : ∀ p ∈ s, 0 ≤ p.1 ∧ p.1 ≤ p.2 ∧ p.2 ≤ 1114111) {a b : Int} (ha : 0 ≤ a) (hb : b ≤ 1114111) (hab : a + 1 < b) (hno : ∀ r ∈ endsL s, r ≤ a ∨ b ≤ r) (r : Int) (h1 : a ≤ r) (h2 : r ≤ b) : hasL s r = hasL s a := by
  apply Bool.eq_iff_iff.2
  rw [hasL_iff, hasL_iff]
  have key : ∀ p ∈ s, (p.1 ≤ r ∧ r ≤ p.2 ∧ 0 ≤ r ∧ r ≤ 1114111) ↔ (p.1 ≤ a ∧ a ≤ p.2 ∧ 0 ≤ a ∧ a ≤ 1114111) := by
    intro p hp
    have hq := hw p hp
    have e1 := hno p.1 (endsL_mem hp hq ⟨by omega, by omega, by omega⟩)
    have e2 := hno p.2 (endsL_mem hp hq ⟨by omega, by omega, by omega⟩)
    have e3 : p.1 = 0 ∨ (p.1 - 1 ≤ a ∨ b ≤ p.1 - 1) := by
      rcases Int.lt_or_le 0 p.1 with h | h
      · exact .inr (hno (p.1 - 1) (endsL_mem hp hq ⟨by omega, by omega, by omega⟩))
      · exact .inl (by omega)
    have e4 : p.2 = 1114111 ∨ (p.2 + 1 ≤ a ∨ b ≤ p.2 + 1) := by
      rcases Int.lt_or_le p.2 1114111 with h | h
      · exact .inr (hno (p.2 + 1) (endsL_mem hp hq ⟨by omega, by omega, by omega⟩))
      · exact .inl (by omega)
    omega
  constructor
  · rintro ⟨p, hp, h⟩; exact ⟨p, hp, (key p hp).1 h⟩
  · rintro ⟨p, hp, h⟩; exact ⟨p, hp, (key p hp).2 h⟩
end Go.Proofs.YtjpabeeokgfloaaDoor
