/- string(b), of octets that read as a list. -/
import Derived.Test.YtjpabeeokgfloaaDoorM01
import Derived.Test.YtjpabeeokgfloaaDoorM02
import Derived.WalkSpells
import Derived.Maps.AppendAt
import Derived.Laws.OwnMore
import Derived.Tactics
import Derived.Lib.Hide
import Derived.Laws.BytesArg
import Derived.IntWalk
import Derived.Laws.IdiomStrings
import Derived.Handy
import Derived.Test.YtjpabeeokgfloaaDoorRows
import Derived.WalkKit
namespace Go.Proofs.YtjpabeeokgfloaaDoor
open Go Go.RowKit

/-- string(b), of octets that read as a list. -/
theorem strRow (w : World) (A : Option Addr) (n c : Nat) (xs : List Int) (h : RowI .u8 w A n xs) :
    (convert 51 9 (.slice A n c)).run Tryd.prog w = .ok (.string (strOfNums xs)) w := by
  rcases Nat.eq_zero_or_pos n with h0 | h0
  · subst h0
    have : xs = [] := List.eq_nil_of_length_eq_zero h.1
    subst this
    rcases A with _ | ⟨b, o, sp⟩
    · exact run_convert_bytes_nil w 51 5 Tryd.underlying51 Tryd.underlying5 0 c 9 Tryd.underlying9
    · rw [run_convert_bytes_string w _ _ _ _ _ _ Tryd.underlying51 Tryd.underlying5 Tryd.underlying9]
      exact run_bytesToString (P := Tryd.prog) w ⟨b, o, sp⟩ 0 c [] (by simpa using run_loadCells_list (P := Tryd.prog) w ⟨b, o, sp⟩ [] (fun j v hj => by simp at hj))
  · obtain ⟨b, o, rfl, _, hc⟩ := h.2 h0
    exact run_convert_bytes_arg (P := Tryd.prog) w 51 5 Tryd.underlying51 Tryd.underlying5 b o n c xs h.1 hc 9 Tryd.underlying9
end Go.Proofs.YtjpabeeokgfloaaDoor
/- append onto a slice of the call's own, and what came in as such a list. -/
namespace Go.Proofs.YtjpabeeokgfloaaDoor
open Go Go.RowKit
set_option maxRecDepth 20000

theorem info_u8 : (Tryd.prog.info? 5).map (fun i => (i.zero, i.size, i.bytes)) = some (some (.int .u8 0), 1, 1) := by kernel_rfl
theorem info_int : (Tryd.prog.info? 3).map (fun i => (i.zero, i.size, i.bytes)) = some (some (.int .i64 0), 1, 8) := by kernel_rfl

/-- The slice that the call owns reads as a list. -/
theorem row_of_own {k : IntKind} {w : World} {base : Nat} {e : TypeId} {v : Value} {n : Nat} {xs : List Int} (h : w.ownsRow base e 1 v n (xs.map (Value.int k))) :
    ∃ A c, v = .slice A n c ∧ RowI k w A n xs ∧ n ≤ c ∧ c ≤ maxLen := by
  obtain ⟨hl, h⟩ := h
  have hl' : xs.length = n := by simpa using hl
  rcases h with ⟨rfl, rfl⟩ | ⟨g, cap, cur, rfl, _, hg, hnc, hcm, hcs, ht⟩
  · have : xs = [] := List.eq_nil_of_length_eq_zero hl'
    subst this
    exact ⟨none, 0, rfl, RowI.nil_, Nat.le_refl _, Nat.zero_le _⟩
  · refine ⟨_, cap, rfl, ⟨hl', fun _ => ⟨g, 0, rfl, ?_, fun j hj => ?_⟩⟩, hnc, hcm⟩
    · exact (Array.getElem?_eq_some_iff.1 hg).1
    · rw [Nat.zero_add, cell_of_row w g j cur e (0, 0) hg]
      have h1 : (cur.toList.take (n * 1))[j]? = (xs.map (Value.int k))[j]? := by rw [ht]
      rw [List.getElem?_take_of_lt (by omega), Array.getElem?_toList] at h1
      rw [h1, List.getElem?_map]
      have hj' : j < xs.length := by omega
      simp [List.getElem?_eq_getElem hj', List.getD]

theorem app_run (k : IntKind) (t e : TypeId) (bytes : Nat) (ht : Tryd.prog.underlying t = some (.slice e)) (hinfo : (Tryd.prog.info? e).map (fun i => (i.zero, i.size, i.bytes)) = some (some (.int k 0), 1, bytes))
    (w : World) (base : Nat) (v : Value) (n : Nat) (xs : List Int) (hown : w.ownsRow base e 1 v n (xs.map (Value.int k)))
    (A : Option Addr) (m c : Nat) (ys : List Int) (hr : RowI k w A m ys) (hnil : A = none → m = 0 ∧ c = 0) (hsz : (n + m) * bytes ≤ 140737488355328) (h63 : n + m ≤ maxLen) (hbase : base ≤ w.heap.size) :
    ∃ v' w', (Builtin.append_ #[t, t] t #[v, .slice A m c]).run Tryd.prog w = .ok v' w' ∧ w'.ownsRow base e 1 v' (n + m) ((xs ++ ys).map (Value.int k)) ∧ w.grownBy w' v.ownBlock := by
  obtain ⟨i0, hi, hz0, hz1, hz2⟩ := info_parts hinfo
  rcases A with _ | ad
  · obtain ⟨rfl, rfl⟩ := hnil rfl
    have hy : ys = [] := List.eq_nil_of_length_eq_zero hr.1
    subst hy
    exact ⟨v, w, run_append_owned_none (P := Tryd.prog) w base t t e i0 1 ht hi v n _ hown, by simpa using hown, World.grownBy.refl w _⟩
  · have hcells : ∀ j u, (ys.map (Value.int k))[j]? = some u → w.cell? (ad.add j) = some u := by
      intro j u hu
      have hj : j < ys.length := by
        rcases Nat.lt_or_ge j ys.length with h | h
        · exact h
        · rw [List.getElem?_eq_none (by simpa using h)] at hu; cases hu
      obtain ⟨b, o, hA, _, hc⟩ := hr.2 (by have := hr.1; omega)
      injection hA with hA
      subst hA
      have hadd : (⟨b, o, none⟩ : Addr).add j = ⟨b, o + j, none⟩ := by unfold Addr.add; split <;> simp_all
      rw [hadd, hc j (by have := hr.1; omega)]
      rw [List.getElem?_map, List.getElem?_eq_getElem hj] at hu
      simp [List.getD, List.getElem?_eq_getElem hj]
      simpa using hu
    obtain ⟨v', w', h1, h2, h3, _⟩ := run_append_own (P := Tryd.prog) w base t t e i0 (.int k 0) 1 bytes ht hi hz0 hz1 hz2 rfl (by decide) v n _ hown ad m c (ys.map (Value.int k)) (by simp [hr.1]) hcells (by intro u hu; obtain ⟨x, _, rfl⟩ := List.mem_map.1 hu; rfl) h63 hsz hbase
    exact ⟨v', w', h1, by rw [List.map_append]; exact h2, h3⟩

/-- What the law's shell says of a slice that came in, in my words. -/
theorem rowI_of_row {k : IntKind} {w : World} {a : Option Addr} {len cap : Nat} {zs : List Int}
    (h : (a = none ∧ len = 0 ∧ cap = 0 ∧ zs = []) ∨
      ∃ x, a = some x ∧ len ≤ cap ∧ cap ≤ maxLen ∧ zs.length = cap ∧ (∀ i, i < zs.length → w.cell? (x.add i) = some (.int k (zs.getD i 0))) ∧ ∀ n ∈ zs, (Lit.int k n).wf = true) :
    RowI k w a len (zs.take len) ∧ len ≤ cap ∧ cap ≤ maxLen ∧ (a = none → len = 0 ∧ cap = 0) ∧ ∀ c ∈ zs.take len, (Lit.int k c).wf = true := by
  rcases h with ⟨rfl, rfl, rfl, rfl⟩ | ⟨x, rfl, hl, hm, hz, hc, hw⟩
  · exact ⟨RowI.nil_, Nat.le_refl _, Nat.zero_le _, fun _ => ⟨rfl, rfl⟩, by simp⟩
  · refine ⟨⟨by rw [List.length_take]; omega, fun hn => ?_⟩, hl, hm, fun h => (by cases h), fun c hc => hw c (List.mem_of_mem_take hc)⟩
    obtain ⟨b, off, spot⟩ := x
    have h0 := hc 0 (by omega)
    have hspot : spot = none := by simpa [Addr.add] using World.cell?_spot h0
    subst hspot
    refine ⟨b, off, rfl, ?_, fun j hj => ?_⟩
    · exact World.block_lt_of_cell? w (⟨b, off, none⟩ : Addr) (by simpa [Addr.add] using h0)
    · have hadd : (⟨b, off, none⟩ : Addr).add j = ⟨b, off + j, none⟩ := by unfold Addr.add; split <;> simp_all
      have := hc j (by omega)
      rw [hadd] at this
      rw [this]
      simp [List.getD, hj]
theorem byte_of_wf {c : Int} (h : (Lit.int .u8 c).wf = true) : 0 ≤ c ∧ c < 256 := by
  simp [Lit.wf, IntKind.min, IntKind.max, IntKind.signed, IntKind.bits] at h
  exact ⟨by omega, by omega⟩

/-- append, by what its run is known to give. -/
theorem wpList_append_run {P : Program} {w : World} {ops : Array Oper} {rest : List Oper} {o : Oper} {a : Act} {Q : Exit → Act → World → Prop} (hgd : o.guard = none) (s x : Operand) (t : TypeId)
    (ho : o.op = .call { callee := .builtin .append, args := #[s, x], argTypes := #[t, t] }) (hty : o.type = t)
    (v y v' : Value) (w' : World) (hs : a.eval s = v) (hx : a.eval x = y) (hrun : (Builtin.append_ #[t, t] t #[v, y]).run P w = .ok v' w')
    (h : wpList P ops Q rest (a.put o.dst v') w') : wpList P ops Q (o :: rest) a w := by
  subst hty
  refine wpList_plain hgd fun K hK => ?_
  unfold Oper.wp
  simp [execOp, ho, resolve, invoke, builtin, hs, hx, hrun, Result.andThen]
  exact hK _ _ h
end Go.Proofs.YtjpabeeokgfloaaDoor
/- Words on memory: what hangs on no type, out of stage 1's texts. (Stage 8's seat had KitR8's text in this one's place.) -/
/- Sets of code points in plain words: which numbers a list of ranges has, when it is a set, that a set is told by its numbers, how many they are. -/
namespace Go.Proofs.YtjpabeeokgfloaaDoor
open Go Go.RowKit
set_option linter.unusedVariables false

/-- Is r in one of the ranges, and a code point's number? -/
def hasL (s : List (Int × Int)) (r : Int) : Bool := s.any fun p => decide (p.1 ≤ r ∧ r ≤ p.2 ∧ 0 ≤ r ∧ r ≤ 1114111)
/-- From lo on: rising, none touching the next one. -/
def CanonF : Int → List (Int × Int) → Prop
  | _, [] => True
  | lo, p :: s => lo ≤ p.1 ∧ p.1 ≤ p.2 ∧ p.2 ≤ 1114111 ∧ CanonF (p.2 + 2) s
def Canon (s : List (Int × Int)) : Prop := CanonF 0 s

theorem hasL_nil (r : Int) : hasL [] r = false := rfl
theorem hasL_cons (p : Int × Int) (s : List (Int × Int)) (r : Int) : hasL (p :: s) r = (decide (p.1 ≤ r ∧ r ≤ p.2 ∧ 0 ≤ r ∧ r ≤ 1114111) || hasL s r) := rfl
theorem hasL_append (a b : List (Int × Int)) (r : Int) : hasL (a ++ b) r = (hasL a r || hasL b r) := by simp [hasL]
theorem hasL_iff (s : List (Int × Int)) (r : Int) : hasL s r = true ↔ ∃ p ∈ s, p.1 ≤ r ∧ r ≤ p.2 ∧ 0 ≤ r ∧ r ≤ 1114111 := by simp [hasL]
theorem hasL_in {s : List (Int × Int)} {r : Int} (h : hasL s r = true) : 0 ≤ r ∧ r ≤ 1114111 := by
  obtain ⟨p, _, h1⟩ := (hasL_iff s r).1 h
  omega
theorem CanonF.mono : ∀ {s : List (Int × Int)} {lo lo' : Int}, CanonF lo s → lo' ≤ lo → CanonF lo' s
  | [], _, _, _, _ => trivial
  | p :: s, lo, lo', h, hl => ⟨by have := h.1; omega, h.2⟩
/-- Nothing of it lies below where it begins. -/
theorem CanonF.ge : ∀ {s : List (Int × Int)} {lo r : Int}, CanonF lo s → hasL s r = true → lo ≤ r
  | [], _, _, _, h => by cases h
  | p :: s, lo, r, hc, h => by
    obtain ⟨h1, h2, h3, h4⟩ := hc
    rw [hasL_cons, Bool.or_eq_true, decide_eq_true_eq] at h
    rcases h with h | h
    · omega
    · have := CanonF.ge h4 h; omega
/-- A set is told by its numbers. -/
theorem canon_eq : ∀ (a b : List (Int × Int)) (lo : Int), 0 ≤ lo → CanonF lo a → CanonF lo b → (∀ r, hasL a r = hasL b r) → a = b
  | [], [], _, _, _, _, _ => rfl
  | [], q :: b, lo, h0, _, hb, h => by
    have h1 := h q.1
    obtain ⟨h2, h3, h4, h5⟩ := hb
    rw [hasL_nil, hasL_cons, decide_eq_true (by omega)] at h1
    cases h1
  | p :: a, [], lo, h0, ha, _, h => by
    have h1 := h p.1
    obtain ⟨h2, h3, h4, h5⟩ := ha
    rw [hasL_nil, hasL_cons, decide_eq_true (by omega)] at h1
    cases h1
  | p :: a, q :: b, lo, h0, ha, hb, h => by
    obtain ⟨a1, a2, a3, a4⟩ := ha
    obtain ⟨b1, b2, b3, b4⟩ := hb
    have key : ∀ (x y : Int × Int) (s t : List (Int × Int)), lo ≤ x.1 → x.1 ≤ x.2 → x.2 ≤ 1114111 → lo ≤ y.1 → y.1 ≤ y.2 → CanonF (y.2 + 2) t → (∀ r, hasL (x :: s) r = hasL (y :: t) r) → y.1 ≤ x.1 := by
      intro x y s t x1 x2 x3 y1 y2 hy he
      have h1 := he x.1
      rw [hasL_cons, decide_eq_true (by omega), Bool.true_or, hasL_cons] at h1
      have h2 := h1.symm
      rw [Bool.or_eq_true, decide_eq_true_eq] at h2
      rcases h2 with h2 | h2
      · omega
      · have := hy.ge h2; omega
    have e1 : p.1 = q.1 := by
      have k1 := key p q a b a1 a2 a3 b1 b2 b4 h
      have k2 := key q p b a b1 b2 b3 a1 a2 a4 fun r => (h r).symm
      omega
    have key2 : ∀ (x y : Int × Int) (s t : List (Int × Int)), x.1 = y.1 → lo ≤ x.1 → x.1 ≤ x.2 → y.2 ≤ 1114111 → CanonF (x.2 + 2) s → (∀ r, hasL (x :: s) r = hasL (y :: t) r) → y.2 ≤ x.2 := by
      intro x y s t exy x1 x2 y3 hx he
      rcases Int.lt_or_le x.2 y.2 with hlt | hle
      · have h1 := he (x.2 + 1)
        rw [hasL_cons y, decide_eq_true (by omega), Bool.true_or, hasL_cons, Bool.or_eq_true, decide_eq_true_eq] at h1
        rcases h1 with h1 | h1
        · omega
        · have := hx.ge h1; omega
      · exact hle
    have e2 : p.2 = q.2 := by
      have k1 := key2 p q a b e1 a1 a2 b3 a4 h
      have k2 := key2 q p b a e1.symm b1 b2 a3 b4 fun r => (h r).symm
      omega
    have epq : p = q := Prod.ext e1 e2
    subst epq
    have ht : ∀ r, hasL a r = hasL b r := by
      intro r
      have h1 := h r
      rw [hasL_cons, hasL_cons] at h1
      rcases Int.lt_or_le r (p.2 + 2) with hlt | hle
      · have ha' : hasL a r = false := by
          cases hx : hasL a r with
          | false => rfl
          | true => have := a4.ge hx; omega
        have hb' : hasL b r = false := by
          cases hx : hasL b r with
          | false => rfl
          | true => have := b4.ge hx; omega
        rw [ha', hb']
      · rw [decide_eq_false (by omega), Bool.false_or, Bool.false_or] at h1
        exact h1
    rw [canon_eq a b (p.2 + 2) (by omega) a4 b4 ht]
theorem canon_one {a b : List (Int × Int)} (ha : Canon a) (hb : Canon b) (h : ∀ r, hasL a r = hasL b r) : a = b := canon_eq a b 0 (Int.le_refl _) ha hb h

/-- How many numbers. -/
def countL (s : List (Int × Int)) : Int := s.foldr (fun p n => (p.2 - p.1 + 1) + n) 0
theorem countL_cons (p : Int × Int) (s : List (Int × Int)) : countL (p :: s) = (p.2 - p.1 + 1) + countL s := rfl
/-- How many of the first N numbers. -/
def cardL (N : Nat) (f : Int → Bool) : Nat := (List.range N).countP fun k : Nat => f (k : Int)
theorem cardL_succ (N : Nat) (f : Int → Bool) : cardL (N + 1) f = cardL N f + (if f (N : Int) = true then 1 else 0) := by
  unfold cardL
  rw [List.range_succ, List.countP_append, List.countP_singleton]
theorem cardL_or (f g : Int → Bool) : ∀ N, cardL N (fun r => f r || g r) + cardL N (fun r => f r && g r) = cardL N f + cardL N g
  | 0 => rfl
  | N + 1 => by
    have := cardL_or f g N
    rw [cardL_succ, cardL_succ, cardL_succ, cardL_succ]
    cases f (N : Int) <;> cases g (N : Int) <;> simp <;> omega
theorem cardL_not (f : Int → Bool) : ∀ N, cardL N f + cardL N (fun r => !f r) = N
  | 0 => rfl
  | N + 1 => by
    have := cardL_not f N
    rw [cardL_succ, cardL_succ]
    cases f (N : Int) <;> simp <;> omega
theorem cardL_congr {f g : Int → Bool} : ∀ N : Nat, (∀ k : Nat, k < N → f (k : Int) = g (k : Int)) → cardL N f = cardL N g
  | 0, _ => rfl
  | N + 1, h => by
    rw [cardL_succ, cardL_succ, cardL_congr N fun k hk => h k (by omega), h N (by omega)]
theorem cardL_range (a b : Nat) (h : a ≤ b) : ∀ N : Nat, cardL N (fun r => decide ((a : Int) ≤ r ∧ r ≤ (b : Int))) = min N (b + 1) - min N a
  | 0 => by simp [cardL]
  | N + 1 => by
    rw [cardL_succ, cardL_range a b h N]
    by_cases hN : a ≤ N ∧ N ≤ b
    · rw [if_pos (by simp; omega)]; omega
    · rw [if_neg (by simp; omega)]; omega
/-- A set's count is how many code points it has. -/
theorem count_card (N : Nat) (hN : N = 1114112) : ∀ (s : List (Int × Int)) (lo : Int), 0 ≤ lo → CanonF lo s → countL s = (cardL N (hasL s) : Int)
  | [], _, _, _ => by
    have : cardL N (hasL []) = 0 := by
      unfold cardL
      rw [List.countP_eq_zero]
      intro k _ h
      cases h
    rw [this]; rfl
  | p :: s, lo, h0, ⟨h1, h2, h3, h4⟩ => by
    have ih := count_card N hN s (p.2 + 2) (by omega) h4
    rw [countL_cons, ih]
    obtain ⟨a, ha⟩ : ∃ a : Nat, p.1 = (a : Int) := ⟨p.1.toNat, by omega⟩
    obtain ⟨b, hb⟩ : ∃ b : Nat, p.2 = (b : Int) := ⟨p.2.toNat, by omega⟩
    have e1 : cardL N (hasL (p :: s)) = cardL N (fun r => decide ((a : Int) ≤ r ∧ r ≤ (b : Int)) || hasL s r) := by
      refine cardL_congr N fun k hk => ?_
      rw [hasL_cons, ha, hb]
      congr 1
      apply decide_eq_decide.2
      omega
    have e2 := cardL_or (fun r => decide ((a : Int) ≤ r ∧ r ≤ (b : Int))) (hasL s) N
    have e3 : cardL N (fun r => decide ((a : Int) ≤ r ∧ r ≤ (b : Int)) && hasL s r) = 0 := by
      unfold cardL
      rw [List.countP_eq_zero]
      intro k _ hk
      rw [Bool.and_eq_true, decide_eq_true_eq] at hk
      have := h4.ge hk.2
      omega
    have e4 := cardL_range a b (by omega) N
    rw [e1]
    omega
theorem count_or {a b o n : List (Int × Int)} (ha : Canon a) (hb : Canon b) (ho : Canon o) (hn : Canon n) (h1 : ∀ r, hasL o r = (hasL a r || hasL b r)) (h2 : ∀ r, hasL n r = (hasL a r && hasL b r)) : countL o + countL n = countL a + countL b := by
  rw [count_card _ rfl o 0 (Int.le_refl _) ho, count_card _ rfl n 0 (Int.le_refl _) hn, count_card _ rfl a 0 (Int.le_refl _) ha, count_card _ rfl b 0 (Int.le_refl _) hb]
  have := cardL_or (hasL a) (hasL b) 1114112
  have e1 : cardL 1114112 (hasL o) = cardL 1114112 (fun r => hasL a r || hasL b r) := cardL_congr _ fun k _ => h1 k
  have e2 : cardL 1114112 (hasL n) = cardL 1114112 (fun r => hasL a r && hasL b r) := cardL_congr _ fun k _ => h2 k
  rw [e1, e2]
  generalize cardL 1114112 _ = x at this ⊢
  omega
theorem count_not {a n : List (Int × Int)} (ha : Canon a) (hn : Canon n) (h : ∀ r, hasL n r = (decide (0 ≤ r ∧ r ≤ 1114111) && !hasL a r)) : countL a + countL n = 1114112 := by
  rw [count_card _ rfl a 0 (Int.le_refl _) ha, count_card _ rfl n 0 (Int.le_refl _) hn]
  have := cardL_not (hasL a) 1114112
  have e : cardL 1114112 (hasL n) = cardL 1114112 (fun r => !hasL a r) := cardL_congr _ fun k hk => by rw [h, decide_eq_true (by omega), Bool.true_and]
  rw [e]
  omega
end Go.Proofs.YtjpabeeokgfloaaDoor
