/- append onto a slice of the call's own, and what came in as such a list. -/
import Derived.Test.YtegcebgoiocakaaM01
import Derived.Maps.AppendAt
import Derived.Laws.OwnMore
import Derived.Tactics
import Derived.Laws.IdiomStrings
import Derived.Lib.Hide
import Derived.Laws.BytesArg
import Derived.IntWalk
import Derived.Handy
import Derived.Test.YtegcebgoiocakaaRows
import Derived.WalkKit
import Derived.BigQuiet
namespace Go.Proofs.Ytegcebgoiocakaa
open Go Go.RowKit
set_option maxRecDepth 20000

theorem info_u8 : (Try.prog.info? 5).map (fun i => (i.zero, i.size, i.bytes)) = some (some (.int .u8 0), 1, 1) := by kernel_rfl
theorem info_int : (Try.prog.info? 3).map (fun i => (i.zero, i.size, i.bytes)) = some (some (.int .i64 0), 1, 8) := by kernel_rfl

/-- The slice that the call owns reads as a list. -/
theorem row_of_own {k : IntKind} {w : World} {base : Nat} {e : TypeId} {v : Value} {n : Nat} {xs : List Int} (h : w.ownsRow base e 1 v n (xs.map (Value.int k))) :
    ∃ A c, v = .slice A n c ∧ RowI k w A n xs ∧ n ≤ c ∧ c ≤ maxLen := by
  obtain ⟨hl, h⟩ := h
  have hl' : xs.length = n := by simpa using hl
  rcases h with ⟨rfl, rfl⟩ | ⟨g, cap, cur, rfl, _, hg, hnc, hcm, hcs, ht⟩
  · have : xs = [] := List.eq_nil_of_length_eq_zero hl'
    subst this
    exact ⟨none, 0, rfl, RowI.nil_, Nat.le_refl _, Nat.zero_le _⟩
  · refine ⟨_, cap, rfl, ⟨hl', fun _ => ⟨g, 0, rfl, ?_, fun j hj => ?_⟩⟩, hnc, hcm⟩
    · exact (Array.getElem?_eq_some_iff.1 hg).1
    · rw [Nat.zero_add, cell_of_row w g j cur e (0, 0) hg]
      have h1 : (cur.toList.take (n * 1))[j]? = (xs.map (Value.int k))[j]? := by rw [ht]
      rw [List.getElem?_take_of_lt (by omega), Array.getElem?_toList] at h1
      rw [h1, List.getElem?_map]
      have hj' : j < xs.length := by omega
      simp [List.getElem?_eq_getElem hj', List.getD]

theorem app_run (k : IntKind) (t e : TypeId) (bytes : Nat) (ht : Try.prog.underlying t = some (.slice e)) (hinfo : (Try.prog.info? e).map (fun i => (i.zero, i.size, i.bytes)) = some (some (.int k 0), 1, bytes))
    (w : World) (base : Nat) (v : Value) (n : Nat) (xs : List Int) (hown : w.ownsRow base e 1 v n (xs.map (Value.int k)))
    (A : Option Addr) (m c : Nat) (ys : List Int) (hr : RowI k w A m ys) (hnil : A = none → m = 0 ∧ c = 0) (hsz : (n + m) * bytes ≤ 140737488355328) (h63 : n + m ≤ maxLen) (hbase : base ≤ w.heap.size) :
    ∃ v' w', (Builtin.append_ #[t, t] t #[v, .slice A m c]).run Try.prog w = .ok v' w' ∧ w'.ownsRow base e 1 v' (n + m) ((xs ++ ys).map (Value.int k)) ∧ w.grownBy w' v.ownBlock := by
  obtain ⟨i0, hi, hz0, hz1, hz2⟩ := info_parts hinfo
  rcases A with _ | ad
  · obtain ⟨rfl, rfl⟩ := hnil rfl
    have hy : ys = [] := List.eq_nil_of_length_eq_zero hr.1
    subst hy
    exact ⟨v, w, run_append_owned_none (P := Try.prog) w base t t e i0 1 ht hi v n _ hown, by simpa using hown, World.grownBy.refl w _⟩
  · have hcells : ∀ j u, (ys.map (Value.int k))[j]? = some u → w.cell? (ad.add j) = some u := by
      intro j u hu
      have hj : j < ys.length := by
        rcases Nat.lt_or_ge j ys.length with h | h
        · exact h
        · rw [List.getElem?_eq_none (by simpa using h)] at hu; cases hu
      obtain ⟨b, o, hA, _, hc⟩ := hr.2 (by have := hr.1; omega)
      injection hA with hA
      subst hA
      have hadd : (⟨b, o, none⟩ : Addr).add j = ⟨b, o + j, none⟩ := by unfold Addr.add; split <;> simp_all
      rw [hadd, hc j (by have := hr.1; omega)]
      rw [List.getElem?_map, List.getElem?_eq_getElem hj] at hu
      simp [List.getD, List.getElem?_eq_getElem hj]
      simpa using hu
    obtain ⟨v', w', h1, h2, h3, _⟩ := run_append_own (P := Try.prog) w base t t e i0 (.int k 0) 1 bytes ht hi hz0 hz1 hz2 rfl (by decide) v n _ hown ad m c (ys.map (Value.int k)) (by simp [hr.1]) hcells (by intro u hu; obtain ⟨x, _, rfl⟩ := List.mem_map.1 hu; rfl) h63 hsz hbase
    exact ⟨v', w', h1, by rw [List.map_append]; exact h2, h3⟩

/-- What the law's shell says of a slice that came in, in my words. -/
theorem rowI_of_row {k : IntKind} {w : World} {a : Option Addr} {len cap : Nat} {zs : List Int}
    (h : (a = none ∧ len = 0 ∧ cap = 0 ∧ zs = []) ∨
      ∃ x, a = some x ∧ len ≤ cap ∧ cap ≤ maxLen ∧ zs.length = cap ∧ (∀ i, i < zs.length → w.cell? (x.add i) = some (.int k (zs.getD i 0))) ∧ ∀ n ∈ zs, (Lit.int k n).wf = true) :
    RowI k w a len (zs.take len) ∧ len ≤ cap ∧ cap ≤ maxLen ∧ (a = none → len = 0 ∧ cap = 0) ∧ ∀ c ∈ zs.take len, (Lit.int k c).wf = true := by
  rcases h with ⟨rfl, rfl, rfl, rfl⟩ | ⟨x, rfl, hl, hm, hz, hc, hw⟩
  · exact ⟨RowI.nil_, Nat.le_refl _, Nat.zero_le _, fun _ => ⟨rfl, rfl⟩, by simp⟩
  · refine ⟨⟨by rw [List.length_take]; omega, fun hn => ?_⟩, hl, hm, fun h => (by cases h), fun c hc => hw c (List.mem_of_mem_take hc)⟩
    obtain ⟨b, off, spot⟩ := x
    have h0 := hc 0 (by omega)
    have hspot : spot = none := by simpa [Addr.add] using World.cell?_spot h0
    subst hspot
    refine ⟨b, off, rfl, ?_, fun j hj => ?_⟩
    · exact World.block_lt_of_cell? w (⟨b, off, none⟩ : Addr) (by simpa [Addr.add] using h0)
    · have hadd : (⟨b, off, none⟩ : Addr).add j = ⟨b, off + j, none⟩ := by unfold Addr.add; split <;> simp_all
      have := hc j (by omega)
      rw [hadd] at this
      rw [this]
      simp [List.getD, hj]
theorem byte_of_wf {c : Int} (h : (Lit.int .u8 c).wf = true) : 0 ≤ c ∧ c < 256 := by
  simp [Lit.wf, IntKind.min, IntKind.max, IntKind.signed, IntKind.bits] at h
  exact ⟨by omega, by omega⟩

/-- append, by what its run is known to give. -/
theorem wpList_append_run {P : Program} {w : World} {ops : Array Oper} {rest : List Oper} {o : Oper} {a : Act} {Q : Exit → Act → World → Prop} (hgd : o.guard = none) (s x : Operand) (t : TypeId)
    (ho : o.op = .call { callee := .builtin .append, args := #[s, x], argTypes := #[t, t] }) (hty : o.type = t)
    (v y v' : Value) (w' : World) (hs : a.eval s = v) (hx : a.eval x = y) (hrun : (Builtin.append_ #[t, t] t #[v, y]).run P w = .ok v' w')
    (h : wpList P ops Q rest (a.put o.dst v') w') : wpList P ops Q (o :: rest) a w := by
  subst hty
  refine wpList_plain hgd fun K hK => ?_
  unfold Oper.wp
  simp [execOp, ho, resolve, invoke, builtin, hs, hx, hrun, Result.andThen]
  exact hK _ _ h
end Go.Proofs.Ytegcebgoiocakaa
/- A string's octets as numbers; []byte(s). -/
namespace Go.Proofs.Ytegcebgoiocakaa
open Go Go.RowKit

/-- A string's octets as numbers. -/
def nums (s : ByteArray) : List Int := s.data.toList.map fun c => (c.toNat : Int)
theorem nums_length (s : ByteArray) : (nums s).length = s.size := by simp [nums]
theorem nums_byte (s : ByteArray) : ∀ c ∈ nums s, 0 ≤ c ∧ c < 256 := by
  intro c hc
  obtain ⟨b, _, rfl⟩ := List.mem_map.1 hc
  have := b.toNat_lt
  omega
theorem nums_get (s : ByteArray) (k : Nat) (h : k < s.size) (h' : k < (nums s).length) : (nums s)[k] = (s[k].toNat : Int) := by
  simp [nums]; rfl
theorem strOfNums_nums (s : ByteArray) : strOfNums (nums s) = s := by
  apply ByteArray.ext
  apply Array.toList_inj.1
  rw [strOfNums_data]
  simp [nums, Function.comp_def]
theorem nums_strOfNums (l : List Int) (h : ∀ c ∈ l, 0 ≤ c ∧ c < 256) : nums (strOfNums l) = l := by
  unfold nums
  rw [strOfNums_data, List.map_map]
  conv => rhs; rw [← List.map_id l]
  apply List.map_congr_left
  intro c hc
  have := h c hc
  simp
  omega

theorem idx_at (s : ByteArray) (k : Nat) (h : k < s.size) (w : World) : (Instr.index 9 (.string s) (.int .i64 (k : Int))).run Try.prog w = .ok (.int .u8 ((nums s).getD k 0)) w := by
  rw [run_index_string w 9 s .i64 k Try.underlying9, dif_pos ⟨by omega, by omega⟩]
  have h' : k < (nums s).length := by rw [nums_length]; exact h
  rw [show (nums s).getD k 0 = (s[k].toNat : Int) by rw [← nums_get s k h h']; simp [List.getD, h']]
  simp
theorem nums_extract_to (s : ByteArray) (p : Nat) : nums (s.extract p s.size) = (nums s).drop p := by
  unfold nums
  rw [← List.map_drop]
  congr 1
  rw [ByteArray.data_extract, Array.toList_extract]
  show (s.data.toList.drop p).take (s.size - p) = _
  exact List.take_of_length_le (by rw [List.length_drop, Array.length_toList]; exact Nat.le_refl _)
/-- []byte(s). -/
theorem bytes_run (s : ByteArray) (w : World) (hs : s.size ≤ maxLen) : ∃ A c w', (convert 9 80 (.string s)).run Try.prog w = .ok (.slice A s.size c) w' ∧ RowI .u8 w' A s.size (nums s) ∧ s.size ≤ c ∧ c ≤ maxLen ∧ Below w.heap.size w w' := by
  refine ⟨_, _, _, run_bytes_of_string w _ _ _ s Try.underlying9 Try.underlying80 Try.underlying5, ⟨nums_length s, fun h0 => ⟨_, _, rfl, ?_, fun j hj => ?_⟩⟩, ?_, ?_, ?_⟩
  · show w.heap.size < (w.heap.push _).size
    rw [Array.size_push]; omega
  · rw [Nat.zero_add]
    refine (World.cell?_alloc_mark w.drew _ _ _ j).trans ?_
    unfold bytesRow
    rw [Array.getElem?_append_left (by rw [Array.size_map]; exact hj), Array.getElem?_map]
    have hj' : j < s.data.size := hj
    have hn : j < (nums s).length := by rw [nums_length]; exact hj
    rw [Array.getElem?_eq_getElem hj']
    have e := nums_get s j hj hn
    rw [List.getD, List.getElem?_eq_getElem hn, Option.getD_some, e]
    rfl
  · exact grownCap_ge w s.size 0 _
  · exact grownCap_le_maxLen w s.size 0 _ hs
  · exact ((Below.refl _ _).drew).alloc (Nat.le_refl _) _
end Go.Proofs.Ytegcebgoiocakaa
/- Words on memory: what hangs on no type, out of stage 1's texts. (Stage 8's seat had KitR8's text in this one's place.) -/
/- Sets of code points in plain words: which numbers a list of ranges has, when it is a set, that a set is told by its numbers, how many they are. -/
namespace Go.Proofs.Ytegcebgoiocakaa
open Go Go.RowKit
set_option linter.unusedVariables false

/-- Is r in one of the ranges, and a code point's number? -/
def hasL (s : List (Int × Int)) (r : Int) : Bool := s.any fun p => decide (p.1 ≤ r ∧ r ≤ p.2 ∧ 0 ≤ r ∧ r ≤ 1114111)
/-- From lo on: rising, none touching the next one. -/
def CanonF : Int → List (Int × Int) → Prop
  | _, [] => True
  | lo, p :: s => lo ≤ p.1 ∧ p.1 ≤ p.2 ∧ p.2 ≤ 1114111 ∧ CanonF (p.2 + 2) s
def Canon (s : List (Int × Int)) : Prop := CanonF 0 s

theorem hasL_nil (r : Int) : hasL [] r = false := rfl
theorem hasL_cons (p : Int × Int) (s : List (Int × Int)) (r : Int) : hasL (p :: s) r = (decide (p.1 ≤ r ∧ r ≤ p.2 ∧ 0 ≤ r ∧ r ≤ 1114111) || hasL s r) := rfl
theorem hasL_append (a b : List (Int × Int)) (r : Int) : hasL (a ++ b) r = (hasL a r || hasL b r) := by simp [hasL]
theorem hasL_iff (s : List (Int × Int)) (r : Int) : hasL s r = true ↔ ∃ p ∈ s, p.1 ≤ r ∧ r ≤ p.2 ∧ 0 ≤ r ∧ r ≤ 1114111 := by simp [hasL]
theorem hasL_in {s : List (Int × Int)} {r : Int} (h : hasL s r = true) : 0 ≤ r ∧ r ≤ 1114111 := by
  obtain ⟨p, _, h1⟩ := (hasL_iff s r).1 h
  omega
theorem CanonF.mono : ∀ {s : List (Int × Int)} {lo lo' : Int}, CanonF lo s → lo' ≤ lo → CanonF lo' s
  | [], _, _, _, _ => trivial
  | p :: s, lo, lo', h, hl => ⟨by have := h.1; omega, h.2⟩
/-- Nothing of it lies below where it begins. -/
theorem CanonF.ge : ∀ {s : List (Int × Int)} {lo r : Int}, CanonF lo s → hasL s r = true → lo ≤ r
  | [], _, _, _, h => by cases h
  | p :: s, lo, r, hc, h => by
    obtain ⟨h1, h2, h3, h4⟩ := hc
    rw [hasL_cons, Bool.or_eq_true, decide_eq_true_eq] at h
    rcases h with h | h
    · omega
    · have := CanonF.ge h4 h; omega
/-- A set is told by its numbers. -/
theorem canon_eq : ∀ (a b : List (Int × Int)) (lo : Int), 0 ≤ lo → CanonF lo a → CanonF lo b → (∀ r, hasL a r = hasL b r) → a = b
  | [], [], _, _, _, _, _ => rfl
  | [], q :: b, lo, h0, _, hb, h => by
    have h1 := h q.1
    obtain ⟨h2, h3, h4, h5⟩ := hb
    rw [hasL_nil, hasL_cons, decide_eq_true (by omega)] at h1
    cases h1
  | p :: a, [], lo, h0, ha, _, h => by
    have h1 := h p.1
    obtain ⟨h2, h3, h4, h5⟩ := ha
    rw [hasL_nil, hasL_cons, decide_eq_true (by omega)] at h1
    cases h1
  | p :: a, q :: b, lo, h0, ha, hb, h => by
    obtain ⟨a1, a2, a3, a4⟩ := ha
    obtain ⟨b1, b2, b3, b4⟩ := hb
    have key : ∀ (x y : Int × Int) (s t : List (Int × Int)), lo ≤ x.1 → x.1 ≤ x.2 → x.2 ≤ 1114111 → lo ≤ y.1 → y.1 ≤ y.2 → CanonF (y.2 + 2) t → (∀ r, hasL (x :: s) r = hasL (y :: t) r) → y.1 ≤ x.1 := by
      intro x y s t x1 x2 x3 y1 y2 hy he
      have h1 := he x.1
      rw [hasL_cons, decide_eq_true (by omega), Bool.true_or, hasL_cons] at h1
      have h2 := h1.symm
      rw [Bool.or_eq_true, decide_eq_true_eq] at h2
      rcases h2 with h2 | h2
      · omega
      · have := hy.ge h2; omega
    have e1 : p.1 = q.1 := by
      have k1 := key p q a b a1 a2 a3 b1 b2 b4 h
      have k2 := key q p b a b1 b2 b3 a1 a2 a4 fun r => (h r).symm
      omega
    have key2 : ∀ (x y : Int × Int) (s t : List (Int × Int)), x.1 = y.1 → lo ≤ x.1 → x.1 ≤ x.2 → y.2 ≤ 1114111 → CanonF (x.2 + 2) s → (∀ r, hasL (x :: s) r = hasL (y :: t) r) → y.2 ≤ x.2 := by
      intro x y s t exy x1 x2 y3 hx he
      rcases Int.lt_or_le x.2 y.2 with hlt | hle
      · have h1 := he (x.2 + 1)
        rw [hasL_cons y, decide_eq_true (by omega), Bool.true_or, hasL_cons, Bool.or_eq_true, decide_eq_true_eq] at h1
        rcases h1 with h1 | h1
        · omega
        · have := hx.ge h1; omega
      · exact hle
    have e2 : p.2 = q.2 := by
      have k1 := key2 p q a b e1 a1 a2 b3 a4 h
      have k2 := key2 q p b a e1.symm b1 b2 a3 b4 fun r => (h r).symm
      omega
    have epq : p = q := Prod.ext e1 e2
    subst epq
    have ht : ∀ r, hasL a r = hasL b r := by
      intro r
      have h1 := h r
      rw [hasL_cons, hasL_cons] at h1
      rcases Int.lt_or_le r (p.2 + 2) with hlt | hle
      · have ha' : hasL a r = false := by
          cases hx : hasL a r with
          | false => rfl
          | true => have := a4.ge hx; omega
        have hb' : hasL b r = false := by
          cases hx : hasL b r with
          | false => rfl
          | true => have := b4.ge hx; omega
        rw [ha', hb']
      · rw [decide_eq_false (by omega), Bool.false_or, Bool.false_or] at h1
        exact h1
    rw [canon_eq a b (p.2 + 2) (by omega) a4 b4 ht]
theorem canon_one {a b : List (Int × Int)} (ha : Canon a) (hb : Canon b) (h : ∀ r, hasL a r = hasL b r) : a = b := canon_eq a b 0 (Int.le_refl _) ha hb h

/-- How many numbers. -/
def countL (s : List (Int × Int)) : Int := s.foldr (fun p n => (p.2 - p.1 + 1) + n) 0
theorem countL_cons (p : Int × Int) (s : List (Int × Int)) : countL (p :: s) = (p.2 - p.1 + 1) + countL s := rfl
/-- How many of the first N numbers. -/
def cardL (N : Nat) (f : Int → Bool) : Nat := (List.range N).countP fun k : Nat => f (k : Int)
theorem cardL_succ (N : Nat) (f : Int → Bool) : cardL (N + 1) f = cardL N f + (if f (N : Int) = true then 1 else 0) := by
  unfold cardL
  rw [List.range_succ, List.countP_append, List.countP_singleton]
theorem cardL_or (f g : Int → Bool) : ∀ N, cardL N (fun r => f r || g r) + cardL N (fun r => f r && g r) = cardL N f + cardL N g
  | 0 => rfl
  | N + 1 => by
    have := cardL_or f g N
    rw [cardL_succ, cardL_succ, cardL_succ, cardL_succ]
    cases f (N : Int) <;> cases g (N : Int) <;> simp <;> omega
theorem cardL_not (f : Int → Bool) : ∀ N, cardL N f + cardL N (fun r => !f r) = N
  | 0 => rfl
  | N + 1 => by
    have := cardL_not f N
    rw [cardL_succ, cardL_succ]
    cases f (N : Int) <;> simp <;> omega
theorem cardL_congr {f g : Int → Bool} : ∀ N : Nat, (∀ k : Nat, k < N → f (k : Int) = g (k : Int)) → cardL N f = cardL N g
  | 0, _ => rfl
  | N + 1, h => by
    rw [cardL_succ, cardL_succ, cardL_congr N fun k hk => h k (by omega), h N (by omega)]
theorem cardL_range (a b : Nat) (h : a ≤ b) : ∀ N : Nat, cardL N (fun r => decide ((a : Int) ≤ r ∧ r ≤ (b : Int))) = min N (b + 1) - min N a
  | 0 => by simp [cardL]
  | N + 1 => by
    rw [cardL_succ, cardL_range a b h N]
    by_cases hN : a ≤ N ∧ N ≤ b
    · rw [if_pos (by simp; omega)]; omega
    · rw [if_neg (by simp; omega)]; omega
/-- A set's count is how many code points it has. -/
theorem count_card (N : Nat) (hN : N = 1114112) : ∀ (s : List (Int × Int)) (lo : Int), 0 ≤ lo → CanonF lo s → countL s = (cardL N (hasL s) : Int)
  | [], _, _, _ => by
    have : cardL N (hasL []) = 0 := by
      unfold cardL
      rw [List.countP_eq_zero]
      intro k _ h
      cases h
    rw [this]; rfl
  | p :: s, lo, h0, ⟨h1, h2, h3, h4⟩ => by
    have ih := count_card N hN s (p.2 + 2) (by omega) h4
    rw [countL_cons, ih]
    obtain ⟨a, ha⟩ : ∃ a : Nat, p.1 = (a : Int) := ⟨p.1.toNat, by omega⟩
    obtain ⟨b, hb⟩ : ∃ b : Nat, p.2 = (b : Int) := ⟨p.2.toNat, by omega⟩
    have e1 : cardL N (hasL (p :: s)) = cardL N (fun r => decide ((a : Int) ≤ r ∧ r ≤ (b : Int)) || hasL s r) := by
      refine cardL_congr N fun k hk => ?_
      rw [hasL_cons, ha, hb]
      congr 1
      apply decide_eq_decide.2
      omega
    have e2 := cardL_or (fun r => decide ((a : Int) ≤ r ∧ r ≤ (b : Int))) (hasL s) N
    have e3 : cardL N (fun r => decide ((a : Int) ≤ r ∧ r ≤ (b : Int)) && hasL s r) = 0 := by
      unfold cardL
      rw [List.countP_eq_zero]
      intro k _ hk
      rw [Bool.and_eq_true, decide_eq_true_eq] at hk
      have := h4.ge hk.2
      omega
    have e4 := cardL_range a b (by omega) N
    rw [e1]
    omega
theorem count_or {a b o n : List (Int × Int)} (ha : Canon a) (hb : Canon b) (ho : Canon o) (hn : Canon n) (h1 : ∀ r, hasL o r = (hasL a r || hasL b r)) (h2 : ∀ r, hasL n r = (hasL a r && hasL b r)) : countL o + countL n = countL a + countL b := by
  rw [count_card _ rfl o 0 (Int.le_refl _) ho, count_card _ rfl n 0 (Int.le_refl _) hn, count_card _ rfl a 0 (Int.le_refl _) ha, count_card _ rfl b 0 (Int.le_refl _) hb]
  have := cardL_or (hasL a) (hasL b) 1114112
  have e1 : cardL 1114112 (hasL o) = cardL 1114112 (fun r => hasL a r || hasL b r) := cardL_congr _ fun k _ => h1 k
  have e2 : cardL 1114112 (hasL n) = cardL 1114112 (fun r => hasL a r && hasL b r) := cardL_congr _ fun k _ => h2 k
  rw [e1, e2]
  generalize cardL 1114112 _ = x at this ⊢
  omega
theorem count_not {a n : List (Int × Int)} (ha : Canon a) (hn : Canon n) (h : ∀ r, hasL n r = (decide (0 ≤ r ∧ r ≤ 1114111) && !hasL a r)) : countL a + countL n = 1114112 := by
  rw [count_card _ rfl a 0 (Int.le_refl _) ha, count_card _ rfl n 0 (Int.le_refl _) hn]
  have := cardL_not (hasL a) 1114112
  have e : cardL 1114112 (hasL n) = cardL 1114112 (fun r => !hasL a r) := cardL_congr _ fun k hk => by rw [h, decide_eq_true (by omega), Bool.true_and]
  rw [e]
  omega
end Go.Proofs.Ytegcebgoiocakaa
/- Ranges as values: rows of them, and what they read as. -/
namespace Go.Proofs.Ytegcebgoiocakaa
open Go Go.RowKit
set_option linter.unusedVariables false
set_option maxRecDepth 20000

def cellsG (s : List (Int × Int)) : List Value := s.flatMap fun p => [.int .i64 p.1, .int .i64 p.2]
theorem cellsG_length (s : List (Int × Int)) : (cellsG s).length = s.length * 2 := by
  induction s with
  | nil => rfl
  | cons p s ih =>
    show ([_, _] ++ cellsG s).length = _
    rw [List.length_append, ih]
    simp
    omega
theorem cellsG_append (a b : List (Int × Int)) : cellsG (a ++ b) = cellsG a ++ cellsG b := by simp [cellsG]
theorem cellsG_at : ∀ (s : List (Int × Int)) (j : Nat), j < s.length → (cellsG s)[j * 2]? = some (.int .i64 (s.getD j (0, 0)).1) ∧ (cellsG s)[j * 2 + 1]? = some (.int .i64 (s.getD j (0, 0)).2)
  | [], j, h => by simp at h
  | p :: s, 0, _ => ⟨rfl, rfl⟩
  | p :: s, j + 1, h => by
    have ih := cellsG_at s j (by simpa using h)
    have e1 : (j + 1) * 2 = j * 2 + 2 := by omega
    show ([.int .i64 p.1, .int .i64 p.2] ++ cellsG s)[(j + 1) * 2]? = _ ∧ ([.int .i64 p.1, .int .i64 p.2] ++ cellsG s)[(j + 1) * 2 + 1]? = _
    rw [List.getElem?_append_right (by simp; omega), List.getElem?_append_right (by simp; omega), e1]
    simpa using ih

/-- The slice of ranges at A with n elements reads as s. -/
def RowG (w : World) (A : Option Addr) (n : Nat) (s : List (Int × Int)) : Prop :=
  s.length = n ∧ (0 < n → ∃ b o, A = some ⟨b, o, none⟩ ∧ b < w.heap.size ∧ ∀ j, j < n →
    w.cell? ⟨b, o + j * 2, none⟩ = some (.int .i64 (s.getD j (0, 0)).1) ∧ w.cell? ⟨b, o + j * 2 + 1, none⟩ = some (.int .i64 (s.getD j (0, 0)).2))
section
variable {w w' : World} {A : Option Addr} {n : Nat} {s : List (Int × Int)}
theorem RowG.nil_ : RowG w A 0 [] := ⟨rfl, fun h => absurd h (by omega)⟩
theorem RowG.drewN (h : RowG w A n s) (q : Nat) : RowG (w.drewN q) A n s := h
theorem RowG.below (h : RowG w A n s) {B : Nat} (hb : Below B w w') (hB : w.heap.size ≤ B) : RowG w' A n s := by
  refine ⟨h.1, fun hn => ?_⟩
  obtain ⟨b, o, hA, hlt, hc⟩ := h.2 hn
  refine ⟨b, o, hA, Nat.lt_of_lt_of_le hlt hb.size, fun j hj => ?_⟩
  rw [hb.cell (p := ⟨b, o + j * 2, none⟩) (show b < B by omega), hb.cell (p := ⟨b, o + j * 2 + 1, none⟩) (show b < B by omega)]
  exact hc j hj
end
theorem rowG_of_own {w : World} {B : Nat} {V : Value} {s : List (Int × Int)} {n : Nat} (h : w.ownsRow B 103 2 V n (cellsG s)) (hl : s.length = n) : ∃ A c, V = .slice A n c ∧ RowG w A n s ∧ n ≤ c ∧ c ≤ maxLen := by
  rcases h.2 with ⟨rfl, rfl⟩ | ⟨g, cap, cur, rfl, hB, hg, hnc, hcm, hcs, ht⟩
  · exact ⟨none, 0, rfl, ⟨hl, fun h => absurd h (by omega)⟩, Nat.le_refl _, Nat.zero_le _⟩
  · refine ⟨_, cap, rfl, ⟨hl, fun hn => ⟨g, 0, rfl, (Array.getElem?_eq_some_iff.1 hg).1, fun j hj => ?_⟩⟩, hnc, hcm⟩
    obtain ⟨e1, e2⟩ := cellsG_at s j (by omega)
    refine ⟨?_, ?_⟩
    · rw [cell_of_row w g (0 + j * 2) cur 103 (0, 0) hg, ← e1, ← ht, List.getElem?_take_of_lt (by omega), Array.getElem?_toList, Nat.zero_add]
    · rw [cell_of_row w g (0 + j * 2 + 1) cur 103 (0, 0) hg, ← e2, ← ht, List.getElem?_take_of_lt (by omega), Array.getElem?_toList, Nat.zero_add]

theorem info_rng : (Try.prog.info? 103).map (fun i => (i.zero, i.size, i.bytes)) = some (some (.agg #[.int .i64 0, .int .i64 0]), 2, 16) := by kernel_rfl
theorem rng_cells : Try.prog.cellsOf 103 = 2 := by kernel_rfl

set_option maxHeartbeats 1000000 in
/-- The document's Has. -/
theorem rhas_any (s : List (Int × Int)) (A : Option Addr) (n c : Nat) (r : Int) (W : World) (hr : RowG W A n s) (hn : n ≤ 1000000) :
    Calls Try.prog 50 #[.slice A n c, .int .i64 r] W fun e w' => e = .returned (.bool (hasL s r)) ∧ W = w' := by
  have HR := Lib.hid hr; clear hr
  go_enter Try.func50, Try.ntmps50
  go_wp2
  go_loopw [5] (fun i wr => ∃ k : Nat, k ≤ n ∧ i = .int .i64 k ∧ Hid (hasL (s.take k) r = false) ∧ wr = W) (fun i _ => n - (intOf i).toNat)
  case atStart => exact ⟨0, Nat.zero_le _, rfl, Lib.hid rfl, rfl⟩
  case round =>
    obtain ⟨k, hk, rfl, HF, rfl⟩ := hrel
    by_cases hlt : k < n
    · obtain ⟨b, o, rfl, _, hc⟩ := HR.out.2 (by omega)
      obtain ⟨c0, c1⟩ := hc k hlt
      have hl := HR.out.1
      have htk : s.take (k + 1) = s.take k ++ [s.getD k (0, 0)] := by
        rw [List.take_succ_eq_append_getElem (by omega)]
        simp [List.getD, List.getElem?_eq_getElem (show k < s.length by omega)]
      have hmem : s.getD k (0, 0) ∈ s := by
        rw [List.getD, List.getElem?_eq_getElem (by omega)]
        exact List.getElem_mem _
      obtain ⟨p, hp⟩ : ∃ p, p = s.getD k (0, 0) := ⟨_, rfl⟩
      rw [← hp] at c0 c1 htk hmem
      clear hc hp hl
      obtain ⟨x, y⟩ := p
      have HTK := Lib.hid htk
      have HMEM := Lib.hid hmem
      clear htk hmem
      by_cases hin : x ≤ r ∧ r ≤ y ∧ 0 ≤ r ∧ r ≤ 1114111
      · obtain ⟨h1, h2, h3, h4⟩ := hin
        have hh : hasL s r = true := (hasL_iff s r).2 ⟨(x, y), HMEM.out, h1, h2, h3, h4⟩
        have HFF := Lib.hid hh
        clear hh
        go_wp2
        go_ret
        rw [HFF.out]
        exact ⟨rfl, rfl⟩
      · have HN : Hid (hasL (s.take (k + 1)) r = false) := Lib.hid (by
          rw [HTK.out, hasL_append, HF.out, hasL_cons, hasL_nil, Bool.false_or, Bool.or_false]
          exact decide_eq_false hin)
        by_cases h1 : x ≤ r
        · by_cases h2 : r ≤ y
          · by_cases h3 : 0 ≤ r
            · have h4 : ¬ r ≤ 1114111 := fun q => hin ⟨h1, h2, h3, q⟩
              clear hin
              go_wp2
              exact ⟨⟨k + 1, by omega, by go_num, HN, trivial⟩, by simp [intOf]; omega⟩
            · clear hin
              go_wp2
              exact ⟨⟨k + 1, by omega, by go_num, HN, trivial⟩, by simp [intOf]; omega⟩
          · clear hin
            go_wp2
            exact ⟨⟨k + 1, by omega, by go_num, HN, trivial⟩, by simp [intOf]; omega⟩
        · clear hin
          go_wp2
          exact ⟨⟨k + 1, by omega, by go_num, HN, trivial⟩, by simp [intOf]; omega⟩
    · have hkn : k = n := by omega
      subst hkn
      have hf : hasL s r = false := by
        have := HF.out
        rwa [List.take_of_length_le (by have := HR.out.1; omega)] at this
      have HFF := Lib.hid hf
      clear hf
      go_wp2
      go_ret
      rw [HFF.out]
      exact ⟨rfl, rfl⟩
end Go.Proofs.Ytegcebgoiocakaa
