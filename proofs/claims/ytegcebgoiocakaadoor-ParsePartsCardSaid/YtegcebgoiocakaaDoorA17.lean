/- Trees that are shown alike are the same. -/
import Derived.Test.YtegcebgoiocakaaDoorA02
import Derived.Test.YtegcebgoiocakaaDoorA03
import Derived.Test.YtegcebgoiocakaaDoorA04
import Derived.Test.YtegcebgoiocakaaDoorA05
import Derived.Test.YtegcebgoiocakaaDoorA16
import Derived.Shelf.Strconv.AppendIntPublic10
import Derived.Test.YtegcebgoiocakaaDoorProg
import Derived.Lib.OthersKept
import Derived.Lib.AppendStr
import Derived.Deep.RegionHeldLaw
import Derived.Deep.RegionLaw
import Derived.BigQuiet
namespace Go.Proofs.YtegcebgoiocakaaDoor
open Go Go.RowKit
set_option linter.unusedVariables false

def rngU (p : Int × Int) : List UInt8 := Lib.itoa p.1 ++ (if p.2 = p.1 then [] else 45 :: Lib.itoa p.2)
/-- Ranges, and the brace behind them. -/
def setU : List (Int × Int) → List UInt8 → List UInt8
  | [], r => r
  | [p], r => rngU p ++ r
  | p :: q :: s, r => rngU p ++ 32 :: setU (q :: s) r
theorem rng_cut {p q : Int × Int} {r t : List UInt8} (hr : ∀ c, r.head? = some c → c = 32 ∨ c = 125) (ht : ∀ c, t.head? = some c → c = 32 ∨ c = 125) (hr0 : r ≠ []) (ht0 : t ≠ []) (h : rngU p ++ r = rngU q ++ t) : p = q ∧ r = t := by
  have okR : ∀ (l : List UInt8), (∀ c, l.head? = some c → c = 32 ∨ c = 125) → itoaOk l := fun l hl c hc => by rcases hl c hc with rfl | rfl <;> rfl
  have ok45 : ∀ (l : List UInt8), itoaOk (45 :: l) := fun l c hc => by
    simp only [List.head?_cons, Option.some.injEq] at hc; subst hc; rfl
  obtain ⟨p1, p2⟩ := p
  obtain ⟨q1, q2⟩ := q
  unfold rngU at h
  dsimp only at h
  rw [List.append_assoc, List.append_assoc] at h
  have ok1 : itoaOk ((if p2 = p1 then [] else 45 :: Lib.itoa p2) ++ r) := by split <;> first | exact okR r hr | exact ok45 _
  have ok2 : itoaOk ((if q2 = q1 then [] else 45 :: Lib.itoa q2) ++ t) := by split <;> first | exact okR t ht | exact ok45 _
  obtain ⟨e1, e2⟩ := itoa_cut ok1 ok2 h
  subst e1
  by_cases hp : p2 = p1 <;> by_cases hq : q2 = p1
  · rw [if_pos hp, if_pos hq] at e2
    exact ⟨by rw [hp, hq], e2⟩
  · rw [if_pos hp, if_neg hq, List.nil_append, List.cons_append] at e2
    rcases hr 45 (by rw [e2]; rfl) with h | h <;> cases h
  · rw [if_neg hp, if_pos hq, List.nil_append, List.cons_append] at e2
    rcases ht 45 (by rw [← e2]; rfl) with h | h <;> cases h
  · rw [if_neg hp, if_neg hq, List.cons_append, List.cons_append] at e2
    injection e2 with _ e2
    obtain ⟨e3, e4⟩ := itoa_cut (okR r hr) (okR t ht) e2
    exact ⟨by rw [e3], e4⟩
theorem rngU_head (p : Int × Int) : ∃ c l, rngU p = c :: l ∧ c ≠ 125 := by
  unfold rngU Lib.itoa
  split
  · exact ⟨45, _, rfl, by decide⟩
  · obtain ⟨h1, h2⟩ := decDigits_dig p.1.toNat p.1.toNat (Nat.le_refl _)
    rcases hd : Lib.decDigits p.1.toNat with _ | ⟨c, l⟩
    · exact absurd hd h1
    · refine ⟨c, _, rfl, fun e => ?_⟩
      have := h2 c (by rw [hd]; simp)
      rw [e] at this
      cases this
theorem setU_cons (p : Int × Int) (s : List (Int × Int)) (r : List UInt8) : ∃ c l, setU (p :: s) r = c :: l ∧ c ≠ 125 := by
  obtain ⟨c, l, h, hc⟩ := rngU_head p
  rcases s with _ | ⟨q, s⟩
  · exact ⟨c, l ++ r, by rw [setU, h]; rfl, hc⟩
  · exact ⟨c, l ++ 32 :: setU (q :: s) r, by rw [setU, h]; rfl, hc⟩
theorem set_cut : ∀ (s u : List (Int × Int)) (r t : List UInt8), setU s (125 :: r) = setU u (125 :: t) → s = u ∧ r = t
  | [], [], r, t, h => by rw [setU, setU] at h; injection h with _ h; exact ⟨rfl, h⟩
  | [], q :: u, r, t, h => by
    obtain ⟨c, l, h1, h2⟩ := setU_cons q u (125 :: t)
    rw [h1, setU] at h
    injection h with h _
    exact absurd h.symm h2
  | p :: s, [], r, t, h => by
    obtain ⟨c, l, h1, h2⟩ := setU_cons p s (125 :: r)
    rw [h1, setU] at h
    injection h with h _
    exact absurd h h2
  | [p], [q], r, t, h => by
    rw [setU, setU] at h
    obtain ⟨e1, e2⟩ := rng_cut (by simp) (by simp) (by simp) (by simp) h
    injection e2 with _ e2
    exact ⟨by rw [e1], e2⟩
  | [p], q :: q' :: u, r, t, h => by
    rw [setU, setU] at h
    obtain ⟨e1, e2⟩ := rng_cut (by simp) (by simp) (by simp) (by simp) h
    injection e2 with e2 _
    cases e2
  | p :: p' :: s, [q], r, t, h => by
    rw [setU, setU] at h
    obtain ⟨e1, e2⟩ := rng_cut (by simp) (by simp) (by simp) (by simp) h
    injection e2 with e2 _
    cases e2
  | p :: p' :: s, q :: q' :: u, r, t, h => by
    rw [setU, setU] at h
    obtain ⟨e1, e2⟩ := rng_cut (by simp) (by simp) (by simp) (by simp) h
    injection e2 with _ e2
    obtain ⟨e3, e4⟩ := set_cut (p' :: s) (q' :: u) r t e2
    exact ⟨by rw [e1, e3], e4⟩

/-! ### Nodes -/
/-- What a parsed tree's node is. -/
def NodeOk (op : Int) (s : List (Int × Int)) (mn mx : Int) (k : Wood) : Prop :=
  (op = 0 ∧ s = [] ∧ mn = 0 ∧ mx = 0 ∧ k = .nil) ∨ (op = 1 ∧ mn = 0 ∧ mx = 0 ∧ k = .nil) ∨ (op = 2 ∧ s = [] ∧ mn = 0 ∧ mx = 0 ∧ k = .nil) ∨ (op = 3 ∧ s = [] ∧ mn = 0 ∧ mx = 0 ∧ k = .nil) ∨ (op = 4 ∧ s = [] ∧ mn = 0 ∧ mx = 0) ∨ (op = 5 ∧ s = [] ∧ mn = 0 ∧ mx = 0) ∨ (op = 6 ∧ s = [])
def PW : Wood → Prop
  | .nil => True
  | .cons op s mn mx k x => NodeOk op s mn mx k ∧ PW k ∧ PW x
/-- A node's text, its kids' text, and what stands behind. -/
def nodeU (op : Int) (s : List (Int × Int)) (mn mx : Int) (K : List UInt8 → List UInt8) (r : List UInt8) : List UInt8 :=
  if op = 0 then 101 :: 109 :: 112 :: 116 :: 121 :: r
  else if op = 1 then 99 :: 104 :: 97 :: 114 :: 123 :: setU s (125 :: r)
  else if op = 2 then 98 :: 101 :: 103 :: 105 :: 110 :: r
  else if op = 3 then 101 :: 110 :: 100 :: r
  else if op = 4 then 99 :: 97 :: 116 :: 40 :: K (41 :: r)
  else if op = 5 then 97 :: 108 :: 116 :: 40 :: K (41 :: r)
  else if op = 6 then 114 :: 101 :: 112 :: 123 :: (Lib.itoa mn ++ 32 :: (Lib.itoa mx ++ 125 :: 40 :: K (41 :: r)))
  else 63 :: r
mutual
def kidsU : Wood → List UInt8 → List UInt8
  | .nil, r => r
  | .cons op s mn mx k x, r => nodeU op s mn mx (kidsU k) (tailU x r)
def tailU : Wood → List UInt8 → List UInt8
  | .nil, r => r
  | .cons op s mn mx k x, r => 44 :: nodeU op s mn mx (kidsU k) (tailU x r)
end
theorem tailU_cons {x : Wood} (hx : x ≠ .nil) (r : List UInt8) : tailU x r = 44 :: kidsU x r := by
  rcases x with _ | ⟨o, s, a, z, k, y⟩
  · exact absurd rfl hx
  · rw [tailU, kidsU]
theorem node_head (op : Int) (s : List (Int × Int)) (mn mx : Int) (K : List UInt8 → List UInt8) (r : List UInt8) : ∃ c l, nodeU op s mn mx K r = c :: l ∧ c ≠ 41 ∧ c ≠ 44 := by
  unfold nodeU
  (repeat' split) <;> exact ⟨_, _, rfl, by decide, by decide⟩
/-- A row's text ends where a parenthesis closes, or the text. -/
def EndU (r : List UInt8) : Prop := ∀ c, r.head? = some c → c = 41
theorem row_inj : ∀ (T U : Wood) (r t : List UInt8), PW T → PW U → EndU r → EndU t → kidsU T r = kidsU U t → T = U ∧ r = t
  | .nil, .nil, r, t, _, _, _, _, h => by rw [kidsU, kidsU] at h; exact ⟨rfl, h⟩
  | .nil, .cons op s mn mx k x, r, t, _, _, hr, _, h => by
    rw [kidsU, kidsU] at h
    obtain ⟨c, l, h1, h2, _⟩ := node_head op s mn mx (kidsU k) (tailU x t)
    exact absurd (hr c (by rw [h, h1]; rfl)) h2
  | .cons op s mn mx k x, .nil, r, t, _, _, _, ht, h => by
    rw [kidsU, kidsU] at h
    obtain ⟨c, l, h1, h2, _⟩ := node_head op s mn mx (kidsU k) (tailU x r)
    exact absurd (ht c (by rw [← h, h1]; rfl)) h2
  | .cons op s mn mx k x, .cons op' s' mn' mx' k' x', r, t, ⟨n1, pk, px⟩, ⟨n2, pk', px'⟩, hr, ht, h => by
    rw [kidsU, kidsU] at h
    have key : (op = op' ∧ s = s' ∧ mn = mn' ∧ mx = mx' ∧ k = k') ∧ tailU x r = tailU x' t := by
      have e41 : ∀ l, EndU (41 :: l) := fun l c hc => by simp only [List.head?_cons, Option.some.injEq] at hc; exact hc.symm
      have ok32 : ∀ l : List UInt8, itoaOk (32 :: l) := fun l c hc => by simp only [List.head?_cons, Option.some.injEq] at hc; subst hc; rfl
      have ok125 : ∀ l : List UInt8, itoaOk (125 :: l) := fun l c hc => by simp only [List.head?_cons, Option.some.injEq] at hc; subst hc; rfl
      rcases n1 with ⟨rfl, rfl, rfl, rfl, rfl⟩ | ⟨rfl, rfl, rfl, rfl⟩ | ⟨rfl, rfl, rfl, rfl, rfl⟩ | ⟨rfl, rfl, rfl, rfl, rfl⟩ | ⟨rfl, rfl, rfl, rfl⟩ | ⟨rfl, rfl, rfl, rfl⟩ | ⟨rfl, rfl⟩ <;>
      rcases n2 with ⟨rfl, rfl, rfl, rfl, rfl⟩ | ⟨rfl, rfl, rfl, rfl⟩ | ⟨rfl, rfl, rfl, rfl, rfl⟩ | ⟨rfl, rfl, rfl, rfl, rfl⟩ | ⟨rfl, rfl, rfl, rfl⟩ | ⟨rfl, rfl, rfl, rfl⟩ | ⟨rfl, rfl⟩ <;>
      first
      | (exfalso; revert h; simp [nodeU]; done)
      | (simp only [nodeU] at h; simp at h; exact ⟨⟨rfl, rfl, rfl, rfl, rfl⟩, h⟩)
      | (simp [nodeU] at h; obtain ⟨e1, e2⟩ := set_cut _ _ _ _ h; exact ⟨⟨rfl, e1, rfl, rfl, rfl⟩, e2⟩)
      | (simp [nodeU] at h; obtain ⟨e1, e2⟩ := row_inj k k' _ _ pk pk' (e41 _) (e41 _) h; injection e2 with _ e2; exact ⟨⟨rfl, rfl, rfl, rfl, e1⟩, e2⟩)
      | (simp [nodeU] at h; obtain ⟨e1, e2⟩ := itoa_cut (ok32 _) (ok32 _) h; injection e2 with _ e2; obtain ⟨e3, e4⟩ := itoa_cut (ok125 _) (ok125 _) e2; injection e4 with _ e4; injection e4 with _ e4; obtain ⟨e5, e6⟩ := row_inj k k' _ _ pk pk' (e41 _) (e41 _) e4; injection e6 with _ e6; exact ⟨⟨rfl, rfl, e1, e3, e5⟩, e6⟩)
    obtain ⟨⟨rfl, rfl, rfl, rfl, rfl⟩, e⟩ := key
    have hx : x = x' ∧ r = t := by
      rcases Classical.em (x = .nil) with h0 | h0 <;> rcases Classical.em (x' = .nil) with h0' | h0'
      · subst h0; subst h0'; rw [tailU, tailU] at e; exact ⟨rfl, e⟩
      · subst h0
        rw [tailU_cons h0', tailU] at e
        exact absurd (hr 44 (by rw [e]; rfl)) (by decide)
      · subst h0'
        rw [tailU_cons h0, tailU] at e
        exact absurd (ht 44 (by rw [← e]; rfl)) (by decide)
      · rw [tailU_cons h0, tailU_cons h0'] at e
        injection e with _ e
        exact row_inj x x' r t px px' hr ht e
    exact ⟨by rw [hx.1], hx.2⟩
end Go.Proofs.YtegcebgoiocakaaDoor
/- strconv.AppendInt at base 10: the library's own contract, laid at this program. -/
namespace Go.Proofs
open Go.Shelf
def Tryd.appendInt_ren : Go.Shelf.Ren := ⟨fun | 176 => 27 | 249 => 31 | 288 => 43 | 283 => 50 | 284 => 51 | 285 => 52 | 286 => 53 | 129 => 59 | 317 => 58 | 318 => 60 | 319 => 61 | 320 => 62 | 337 => 72 | 338 => 73 | n => n, fun | 37 => 42 | 2 => 2 | 3 => 3 | 53 => 71 | 4 => 4 | 9 => 9 | 171 => 78 | 0 => 0 | 173 => 81 | 212 => 86 | 51 => 87 | 5 => 5 | 20 => 20 | 213 => 88 | 46 => 60 | 232 => 103 | 233 => 104 | n => n, fun | 17 => 0 | 18 => 1 | 19 => 2 | n => n⟩
theorem Tryd.appendInt : Go.Proofs.LaysM.n176 Tryd.prog Tryd.appendInt_ren := {
  mixed := by kernel_rfl
  f129 := Tryd.func59.trans (congrArg some (by kernel_rfl))
  f176 := Tryd.func27.trans (congrArg some (by kernel_rfl))
  f249 := Tryd.func31.trans (congrArg some (by kernel_rfl))
  f283 := Tryd.func50.trans (congrArg some (by kernel_rfl))
  f284 := Tryd.func51.trans (congrArg some (by kernel_rfl))
  f285 := Tryd.func52.trans (congrArg some (by kernel_rfl))
  f286 := Tryd.func53.trans (congrArg some (by kernel_rfl))
  f288 := Tryd.func43.trans (congrArg some (by kernel_rfl))
  f317 := Tryd.func58.trans (congrArg some (by kernel_rfl))
  f318 := Tryd.func60.trans (congrArg some (by kernel_rfl))
  f319 := Tryd.func61.trans (congrArg some (by kernel_rfl))
  f320 := Tryd.func62.trans (congrArg some (by kernel_rfl))
  f337 := Tryd.func72.trans (congrArg some (by kernel_rfl))
  f338 := Tryd.func73.trans (congrArg some (by kernel_rfl))
  t0 := Tryd.underlying0
  a0 := Tryd.isAgg0
  z0 := Tryd.sizeOf0
  v0 := Tryd.zeroValue0
  t2 := Tryd.underlying2
  a2 := Tryd.isAgg2
  z2 := Tryd.sizeOf2
  v2 := Tryd.zeroValue2
  t3 := Tryd.underlying3
  a3 := Tryd.isAgg3
  z3 := Tryd.sizeOf3
  v3 := Tryd.zeroValue3
  t4 := Tryd.underlying4
  a4 := Tryd.isAgg4
  z4 := Tryd.sizeOf4
  v4 := Tryd.zeroValue4
  t5 := Tryd.underlying5
  a5 := Tryd.isAgg5
  z5 := Tryd.sizeOf5
  v5 := Tryd.zeroValue5
  t9 := Tryd.underlying9
  a9 := Tryd.isAgg9
  z9 := Tryd.sizeOf9
  v9 := Tryd.zeroValue9
  t20 := Tryd.underlying20
  a20 := Tryd.isAgg20
  z20 := Tryd.sizeOf20
  v20 := Tryd.zeroValue20
  t37 := Tryd.underlying42
  a37 := Tryd.isAgg42
  z37 := Tryd.sizeOf42
  v37 := Tryd.zeroValue42
  t46 := Tryd.underlying60
  a46 := Tryd.isAgg60
  z46 := Tryd.sizeOf60
  v46 := Tryd.zeroValue60
  t51 := Tryd.underlying87
  a51 := Tryd.isAgg87
  z51 := Tryd.sizeOf87
  v51 := Tryd.zeroValue87
  t53 := Tryd.underlying71
  a53 := Tryd.isAgg71
  z53 := Tryd.sizeOf71
  v53 := Tryd.zeroValue71
  t171 := Tryd.underlying78
  a171 := Tryd.isAgg78
  z171 := Tryd.sizeOf78
  v171 := Tryd.zeroValue78
  t173 := Tryd.underlying81
  a173 := Tryd.isAgg81
  z173 := Tryd.sizeOf81
  v173 := Tryd.zeroValue81
  t212 := Tryd.underlying86
  a212 := Tryd.isAgg86
  z212 := Tryd.sizeOf86
  v212 := Tryd.zeroValue86
  t213 := Tryd.underlying88
  a213 := Tryd.isAgg88
  z213 := Tryd.sizeOf88
  t232 := Tryd.underlying103
  a232 := Tryd.isAgg103
  z232 := Tryd.sizeOf103
  v232 := Tryd.zeroValue103
  t233 := Tryd.underlying104
  a233 := Tryd.isAgg104
  z233 := Tryd.sizeOf104
  v233 := Tryd.zeroValue104
  g17 := by kernel_rfl
  g18 := by kernel_rfl
  g19 := by kernel_rfl
  i0 := by kernel_rfl
  i2 := by kernel_rfl
  i3 := by kernel_rfl
  i4 := by kernel_rfl
  i5 := by kernel_rfl
  i9 := by kernel_rfl
  i20 := by kernel_rfl
  i37 := by kernel_rfl
  i46 := by kernel_rfl
  i51 := by kernel_rfl
  i53 := by kernel_rfl
  i171 := by kernel_rfl
  i173 := by kernel_rfl
  i212 := by kernel_rfl
  i232 := by kernel_rfl
  i233 := by kernel_rfl
  m17 := by kernel_rfl
  m18 := by kernel_rfl
  m19 := by kernel_rfl }

/-- A number's digits behind a row of octets. -/
theorem Tryd.append_int (B n : Nat) (i : Int) (h0 : -9223372036854775808 ≤ i) (h1 : i ≤ 9223372036854775807) (sv : Value) (xs : List Value) (w : World) (hown : w.ownsRow B 5 1 sv n xs) (hBw : B ≤ w.heap.size) (hlim : n + 21 ≤ 140737488355328)
    (htab : Lib.TabBelow Tryd.prog B w "internal/strconv.uint64pow10" .u64 Lib.pow10Tab) :
    Calls Tryd.prog 27 #[sv, .int .i64 i, .int .i64 10] w fun e w' => ∃ v', e = .returned v' ∧ w'.ownsRow B 5 1 v' (n + (Lib.itoa i).length) (xs ++ Lib.byteCells (Lib.itoa i)) ∧ RowKit.Below B w w' ∧ Lib.OthersKept 5 none w w' :=
  Any.strconv_AppendInt_10 Tryd.appendInt B n i h0 h1 sv xs w hown hBw hlim htab
end Go.Proofs
/- A row of octets that grows: texts, octets, numbers put behind it. -/
namespace Go.Proofs.YtegcebgoiocakaaDoor
open Go Go.RowKit
set_option linter.unusedVariables false
set_option maxRecDepth 20000

/-- The row of octets at V reads as the text S. -/
def Buf (B : Nat) (w : World) (V : Value) (S : ByteArray) : Prop := w.ownsRow B 5 1 V S.size (Lib.byteCells S.data.toList)
/-- Below B nothing has turned, and above it nothing but rows of octets. -/
def FrO (B : Nat) (w w' : World) : Prop := Below B w w' ∧ Lib.OthersKept 5 none w w'
theorem FrO.refl (B : Nat) (w : World) : FrO B w w := ⟨Below.refl _ _, Lib.OthersKept.refl _ _ _⟩
theorem FrO.trans {B : Nat} {a b c : World} (h : FrO B a b) (k : FrO B b c) : FrO B a c := ⟨h.1.trans k.1, h.2.trans k.2⟩
theorem FrO.drewN {B : Nat} {a b : World} (h : FrO B a b) (q : Nat) : FrO B a (b.drewN q) := ⟨below_drewN h.1 q, h.2⟩
theorem FrO.drew {B : Nat} {a b : World} (h : FrO B a b) : FrO B a b.drew := ⟨h.1.drew, h.2⟩
theorem FrO.alloc {B : Nat} {a b : World} (h : FrO B a b) (hB : B ≤ a.heap.size) (o : Obj) : FrO B a (b.alloc o) := ⟨h.1.alloc (Nat.le_trans hB h.1.size) o, h.2.alloc o⟩
theorem FrO.mono {B B' : Nat} {a b : World} (h : FrO B a b) (hB : B' ≤ B) : FrO B' a b := ⟨h.1.mono hB, h.2⟩
/-- A block that is no row of octets stays. -/
theorem FrO.keep {B : Nat} {a b : World} (h : FrO B a b) {k : Nat} {cs : Array Value} {t : TypeId} {fr : Nat × Nat} (hk : a.heap[k]? = some (.cells cs t fr)) (ht : t ≠ 5) : b.heap[k]? = some (.cells cs t fr) :=
  h.2 k _ hk (by simp) fun c fz e => by injection e with _ e _; exact ht e

/-- append in a region that draws, by what its run is known to give (of a text behind octets). -/
theorem step_append2 {P : Program} {ops : Array Oper} {o : Oper} {a : Act} {w : World} {K : Act → World → Prop} {Q : Exit → Act → World → Prop} {E : Prop} (hgd : o.guard = none) (s x : Operand) (t u : TypeId)
    (ho : o.op = .call { callee := .builtin .append, args := #[s, x], argTypes := #[t, u] }) (hty : o.type = t)
    (v y v' : Value) (w' : World) (hs : a.eval s = v) (hx : a.eval x = y) (hrun : (Builtin.append_ #[t, u] t #[v, y]).run P w = .ok v' w')
    (hK : K (a.put o.dst v') w') : if Region.wanted o (yielded ops a.tmps) = true then Oper.wp P o a w K Q else E := by
  have hw : Region.wanted o (yielded ops a.tmps) = true := by simp [Region.wanted, hgd]
  rw [if_pos hw]
  subst hty
  unfold Oper.wp
  simp [execOp, ho, resolve, invoke, builtin, hs, hx, hrun, Result.andThen]
  exact hK
/-- append in a region that draws, by what its run is known to give. -/
theorem step_append_run {P : Program} {ops : Array Oper} {o : Oper} {a : Act} {w : World} {K : Act → World → Prop} {Q : Exit → Act → World → Prop} {E : Prop} (hgd : o.guard = none) (s x : Operand) (t : TypeId)
    (ho : o.op = .call { callee := .builtin .append, args := #[s, x], argTypes := #[t, t] }) (hty : o.type = t)
    (v y v' : Value) (w' : World) (hs : a.eval s = v) (hx : a.eval x = y) (hrun : (Builtin.append_ #[t, t] t #[v, y]).run P w = .ok v' w')
    (hK : K (a.put o.dst v') w') : if Region.wanted o (yielded ops a.tmps) = true then Oper.wp P o a w K Q else E := by
  have hw : Region.wanted o (yielded ops a.tmps) = true := by simp [Region.wanted, hgd]
  rw [if_pos hw]
  subst hty
  unfold Oper.wp
  simp [execOp, ho, resolve, invoke, builtin, hs, hx, hrun, Result.andThen]
  exact hK

/-- append in a list of operations. -/
theorem wpList_append2 {P : Program} {w : World} {ops : Array Oper} {rest : List Oper} {o : Oper} {a : Act} {Q : Exit → Act → World → Prop} (hgd : o.guard = none) (s x : Operand) (t u : TypeId)
    (ho : o.op = .call { callee := .builtin .append, args := #[s, x], argTypes := #[t, u] }) (hty : o.type = t)
    (v y v' : Value) (w' : World) (hs : a.eval s = v) (hx : a.eval x = y) (hrun : (Builtin.append_ #[t, u] t #[v, y]).run P w = .ok v' w')
    (h : wpList P ops Q rest (a.put o.dst v') w') : wpList P ops Q (o :: rest) a w := by
  subst hty
  refine wpList_plain hgd fun K hK => ?_
  unfold Oper.wp
  simp [execOp, ho, resolve, invoke, builtin, hs, hx, hrun, Result.andThen]
  exact hK _ _ h

theorem info_oct : (Tryd.prog.info? 5).map (fun i => (i.zero, i.size, i.bytes)) = some (some (.int .u8 0), 1, 1) := by kernel_rfl
section
variable {w w' : World} {B : Nat} {V : Value} {S : ByteArray}
theorem Buf.nil_ (B : Nat) (w : World) : Buf B w (.slice none 0 0) ByteArray.empty := World.ownsRow_nil _ _ _ _
theorem Buf.slice (h : Buf B w V S) : ∃ A c, V = .slice A S.size c ∧ RowI .u8 w A S.size (nums S) ∧ S.size ≤ c ∧ c ≤ maxLen := by
  have e : Lib.byteCells S.data.toList = (nums S).map (.int .u8) := by simp [Lib.byteCells, nums]
  unfold Buf at h
  rw [e] at h
  have hl := nums_length S
  rw [← hl] at h ⊢
  exact row_of_own h
theorem Buf.alloc (h : Buf B w V S) (o : Obj) : Buf B (w.alloc o) V S := own_alloc h o
theorem Buf.drewN (h : Buf B w V S) (q : Nat) : Buf B (w.drewN q) V S := h
theorem Buf.drew (h : Buf B w V S) : Buf B w.drew V S := h
theorem Buf.grown_frame (h : Buf B w V S) (hB : B ≤ w.heap.size) {a : World} (hf : FrO B a w) (hg : w.grownBy w' V.ownBlock) : FrO B a w' := by
  refine ⟨hf.1.grown hg hB fun k hk => (row_lt h hk).1, hf.2.grown hg fun g hk => ?_⟩
  rcases h.2 with ⟨e, _⟩ | ⟨b, cap, cur, e, _, hr, _⟩
  · subst e; cases hk
  · subst e
    injection hk with hk
    subst hk
    exact ⟨cur, (0, 0), hr⟩
/-- A text is put behind. -/
theorem buf_str (h : Buf B w V S) (T : ByteArray) (hB : B ≤ w.heap.size) (hs : S.size + T.size ≤ 140000000) :
    ∃ V' w', (Builtin.append_ #[42, 9] 42 #[V, .string T]).run Tryd.prog w = .ok V' w' ∧ Buf B w' V' (S ++ T) ∧ FrO B w w' := by
  obtain ⟨i0, hi, hz0, hz1, hz2⟩ := info_parts info_oct
  obtain ⟨V', w', h1, h2, h3, _⟩ := Lib.run_append_own_string (P := Tryd.prog) w B 42 9 42 5 i0 Tryd.underlying42 Tryd.underlying9 hi hz0 hz1 hz2 V S.size _ h T (by unfold maxLen; omega) (by omega) hB
  refine ⟨V', w', h1, ?_, h.grown_frame hB (FrO.refl _ _) h3⟩
  unfold Buf
  rw [show (S ++ T).data.toList = S.data.toList ++ T.data.toList by simp, show Lib.byteCells (S.data.toList ++ T.data.toList) = Lib.byteCells S.data.toList ++ Lib.strCells T by simp [Lib.byteCells, Lib.strCells], ba_size]
  exact h2
/-- An octet is put behind: it lies in a block of its own, just made. -/
theorem buf_byte (h : Buf B w V S) (c : UInt8) (k : Int) (hk : k = (c.toNat : Int)) (hB : B ≤ w.heap.size) (hs : S.size ≤ 140000000) :
    ∃ V' w', (Builtin.append_ #[42, 42] 42 #[V, .slice (some ⟨w.heap.size, 0, none⟩) 1 1]).run Tryd.prog (w.alloc (.cells #[.int .u8 k] 5)) = .ok V' w' ∧ Buf B w' V' (S ++ strB [c]) ∧ FrO B w w' := by
  subst hk
  obtain ⟨V', w', h1, h2, h3⟩ := push_run 42 5 (.int .u8 0) 1 Tryd.underlying42 info_oct rfl w B V S.size _ h (.int .u8 (c.toNat : Int)) rfl (by omega) (by unfold maxLen; omega) hB
  refine ⟨V', w', h1, ?_, (h.alloc (.cells #[.int .u8 (c.toNat : Int)] 5)).grown_frame (by simp; omega) ((FrO.refl _ _).alloc hB _) h3⟩
  unfold Buf
  rw [show (S ++ strB [c]).data.toList = S.data.toList ++ [c] by simp [strB], show Lib.byteCells (S.data.toList ++ [c]) = Lib.byteCells S.data.toList ++ [.int .u8 (c.toNat : Int)] by simp [Lib.byteCells], ba_size]
  exact h2
end
/-- The table of powers, as it was laid; nothing below B turns. -/
def Tab (B : Nat) (w : World) : Prop := Lib.TabBelow Tryd.prog B w "internal/strconv.uint64pow10" .u64 Lib.pow10Tab
theorem Tab.on {B : Nat} {w w' : World} (h : Tab B w) (hb : Below B w w') : Tab B w' := Lib.TabBelow.on h hb
theorem Tab.up {B B' : Nat} {w : World} (h : Tab B w) (hB : B ≤ B') : Tab B' w := fun w' hb => h w' (hb.mono hB)
/-- A number is put behind. -/
theorem number_buf {B : Nat} {w : World} {V : Value} {S : ByteArray} (h : Buf B w V S) (n : Int) (hn : In64 n) (hB : B ≤ w.heap.size) (hs : S.size ≤ 140000000) (ht : Tab B w) :
    Calls Tryd.prog 20 #[V, .int .i64 n] w fun e w' => ∃ V', e = .returned V' ∧ Buf B w' V' (S ++ digB n) ∧ FrO B w w' := by
  have HA := Lib.hid (Tryd.append_int B S.size n hn.1 hn.2 V _ w h hB (by omega) ht)
  obtain ⟨A, c, rfl, _⟩ := h.slice
  clear h
  go_enter Tryd.func20, Tryd.ntmps20
  go_wp2_with (go_at_call 27; (with_reducible refine HA.out.mono ?_); rintro e w1 ⟨v, rfl, ho, hb, hk⟩; have HO := Lib.hid (And.intro ho (And.intro hb hk)); clear ho hb hk)
  go_ret
  refine ⟨v, rfl, ?_, HO.out.2⟩
  have := HO.out.1
  unfold Buf
  rw [show (S ++ digB n).data.toList = S.data.toList ++ Lib.itoa n by simp [digB], Lib.byteCells_append, ba_size, show (digB n).size = (Lib.itoa n).length by simp [digB, ByteArray.size]]
  exact this
end Go.Proofs.YtegcebgoiocakaaDoor
/- The program's showSet. -/
namespace Go.Proofs.YtegcebgoiocakaaDoor
open Go Go.RowKit
set_option linter.unusedVariables false
set_option maxRecDepth 20000

theorem setB_nil : setB [] = ByteArray.empty := rfl
/-- The first range; one more. -/
theorem set_step0 {S1 U : ByteArray} {s : List (Int × Int)} {j : Nat} {p : Int × Int} (hU : U = S1 ++ setB (s.take j)) (ht : s.take (j + 1) = s.take j ++ [p]) (h0 : j = 0) : U ++ rngB p = S1 ++ setB (s.take (j + 1)) := by
  rw [ht, hU, h0, List.take_zero, setB_nil, ba_nil]; rfl
theorem set_step1 {S1 U : ByteArray} {s : List (Int × Int)} {j : Nat} {p : Int × Int} (hU : U = S1 ++ setB (s.take j)) (ht : s.take (j + 1) = s.take j ++ [p]) (h0 : 0 < j) : U ++ strB [32] ++ rngB p = S1 ++ setB (s.take (j + 1)) := by
  have hne : s.take j ≠ [] := fun e => by
    rw [e, List.nil_append] at ht
    have := congrArg List.length ht
    rw [List.length_take, List.length_singleton] at this
    have h2 := congrArg List.length e
    rw [List.length_take, List.length_nil] at h2
    omega
  rw [ht, setB_snoc, if_neg hne, hU]
  simp only [ba_assoc]
set_option maxHeartbeats 4000000 in
theorem showSet_buf {w0 w : World} {V : Value} {S : ByteArray} {A : Option Addr} {n c : Nat} {s : List (Int × Int)} (h : Buf w0.heap.size w V S) (hb : Below w0.heap.size w0 w) (ht : Tab w0.heap.size w) (hr : RowG w0 A n s) (hw : ∀ p ∈ s, In64 p.1 ∧ In64 p.2) (hs : S.size + 50 * n ≤ 100000000) :
    Calls Tryd.prog 18 #[V, .slice A n c] w fun e w' => ∃ V', e = .returned V' ∧ Buf w0.heap.size w' V' (S ++ strB [123] ++ setB s ++ strB [125]) ∧ FrO w0.heap.size w w' := by
  obtain ⟨V1, w1, ha1, hb1, hf1⟩ := buf_byte h 123 123 rfl hb.size (by omega)
  obtain ⟨S1, hS1⟩ : ∃ T, T = S ++ strB [123] := ⟨_, rfl⟩
  have hS1s : S1.size ≤ S.size + 1 := by rw [hS1, ba_size, strB_size]; exact Nat.le_refl _
  rw [← hS1] at hb1 ⊢
  obtain ⟨A1, c1, rfl, _⟩ := hb1.slice
  obtain ⟨A0, c0, rfl, _⟩ := h.slice
  have HR := Lib.hid hr
  have HWF := Lib.hid hw
  have HB := Lib.hid (And.intro hb ht)
  have H1 := Lib.hid (And.intro hb1 hf1)
  have hn : n ≤ 2000000 := by omega
  clear h hb ht hr hw hb1 hf1 hS1
  go_enter Tryd.func18, Tryd.ntmps18
  go_wp2_with (at_builtin; refine wpList_append_run rfl _ _ 42 rfl rfl _ _ _ _ rfl rfl ha1 ?_)
  go_loopw [0, 12] (fun vb vi wr => ∃ (j : Nat) (U : ByteArray), vi = .int .i64 (j : Int) ∧ j ≤ n ∧ U.size ≤ S.size + 1 + 46 * j ∧
    ∃ (A : Option Addr) (c : Nat), vb = .slice A U.size c ∧ Hid (Buf w0.heap.size wr (.slice A U.size c) U ∧ FrO w0.heap.size w wr ∧ U = S1 ++ setB (s.take j))) (fun _ vi _ => n - (intOf vi).toNat)
  case atStart => exact ⟨0, S1, rfl, Nat.zero_le _, by omega, A1, c1, rfl, Lib.hid ⟨H1.out.1, H1.out.2, by rw [List.take_zero, setB_nil, ba_nil]⟩⟩
  case round =>
    obtain ⟨j, U, rfl, hj, hU, Ab, cb, rfl, H⟩ := hrel
    by_cases hlt : j < n
    · obtain ⟨b, o, rfl, hblt, hc⟩ := HR.out.2 (by omega)
      obtain ⟨e0, e1⟩ := hc j hlt
      have hbw : Below w0.heap.size w0 wr := HB.out.1.trans H.out.2.1.1
      have c0 := (hbw.cell (p := ⟨b, o + j * 2, none⟩) hblt).trans e0
      have c1 := (hbw.cell (p := ⟨b, o + j * 2 + 1, none⟩) hblt).trans e1
      have hmem : s.getD j (0, 0) ∈ s := by
        rw [List.getD, List.getElem?_eq_getElem (by have := HR.out.1; omega)]
        exact List.getElem_mem _
      have htk : s.take (j + 1) = s.take j ++ [s.getD j (0, 0)] := by
        rw [List.take_succ_eq_append_getElem (by have := HR.out.1; omega)]
        simp [List.getD, List.getElem?_eq_getElem (show j < s.length by have := HR.out.1; omega)]
      have hwf := HWF.out _ hmem
      obtain ⟨r, hrr⟩ : ∃ r, r = s.getD j (0, 0) := ⟨_, rfl⟩
      rw [← hrr] at c0 c1 htk hwf
      obtain ⟨x, y⟩ := r
      dsimp only at c0 c1 hwf
      clear hc e0 e1 hmem hrr
      have hBw : w0.heap.size ≤ w.heap.size := HB.out.1.size
      have hdx := digB_size hwf.1
      have hdy := digB_size hwf.2
      rcases Nat.eq_zero_or_pos j with h0 | h0
      · have hj0 : ¬ 0 < j := by omega
        have HTK := Lib.hid (And.intro htk h0)
        clear htk h0
        have HBX := Lib.hid (heap_alloc_new wr (.cells #[.int .i64 x, .int .i64 y] 51))
        have HFW := Lib.hid (H.out.2.1.alloc hBw (.cells #[.int .i64 x, .int .i64 y] 51))
        have HN := Lib.hid (number_buf (H.out.1.alloc (.cells #[.int .i64 x, .int .i64 y] 51)) x hwf.1 (Nat.le_trans HB.out.1.size (H.out.2.1.alloc hBw (.cells #[.int .i64 x, .int .i64 y] 51)).1.size) (by omega) (HB.out.2.on (H.out.2.1.alloc hBw (.cells #[.int .i64 x, .int .i64 y] 51)).1))
        by_cases hxy : x = y
        · subst hxy
          have hne : (x != x) = false := by simp
          go_wp2_with (first
            | (go_at_call 20; (with_reducible refine HN.out.mono ?_); rintro e w2 ⟨V2, rfl, hb2, hf2⟩; obtain ⟨A2, c2, rfl, _⟩ := hb2.slice; have hbx := hf2.keep (k := wr.heap.size) HBX.out (by decide); have q0 := cell_of_row w2 wr.heap.size 0 _ _ (0, 0) hbx; have q1 := cell_of_row w2 wr.heap.size 1 _ _ (0, 0) hbx; have H2 := Lib.hid (And.intro hb2 hf2); clear hb2 hf2 hbx))
          refine ⟨⟨j + 1, U ++ digB x, by go_num, by omega, by rw [ba_size]; omega, _, _, by first | rfl | (rw [ba_size]), Lib.hid ⟨H2.out.1, HFW.out.trans H2.out.2, ?_⟩⟩, by simp [intOf]; omega⟩
          rw [← set_step0 H.out.2.2 HTK.out.1 HTK.out.2, show rngB (x, x) = digB x from if_pos rfl]
        · have hne : (x != y) = true := by simpa using hxy
          go_wp2_with (first
            | (go_at_call 20; (with_reducible refine HN.out.mono ?_); rintro e w2 ⟨V2, rfl, hb2, hf2⟩; obtain ⟨U2, hU2⟩ : ∃ T, T = U ++ digB x := ⟨_, rfl⟩; rw [← hU2] at hb2; have hU2s : U2.size ≤ U.size + 21 := (by rw [hU2, ba_size]; omega); obtain ⟨A2, c2, rfl, _⟩ := hb2.slice; have hbx := hf2.keep (k := wr.heap.size) HBX.out (by decide); have q0 := cell_of_row w2 wr.heap.size 0 _ _ (0, 0) hbx; have q1 := cell_of_row w2 wr.heap.size 1 _ _ (0, 0) hbx; have H2 := Lib.hid (And.intro hb2 (And.intro hf2 (And.intro hU2 hbx))); clear hb2 hf2 hU2 hbx))
          have hB2 : w0.heap.size ≤ w2.heap.size := Nat.le_trans HB.out.1.size (Nat.le_trans HFW.out.1.size H2.out.2.1.1.size)
          obtain ⟨V3, w3, ha3, hb3, hf3⟩ := buf_byte (w := w2.drew) H2.out.1 45 45 rfl (by exact hB2) (by omega)
          obtain ⟨U3, hU3⟩ : ∃ T, T = U2 ++ strB [45] := ⟨_, rfl⟩
          have hU3s : U3.size ≤ U2.size + 1 := by rw [hU3, ba_size, strB_size]; exact Nat.le_refl _
          rw [← hU3] at hb3
          obtain ⟨A3, c3, rfl, _⟩ := hb3.slice
          have ha3d : (Builtin.append_ #[42, 42] 42 #[.slice A2 U2.size c2, .slice (some ⟨w2.heap.size, 0, none⟩) 1 1]).run Tryd.prog (w2.alloc (.cells #[.int .u8 45] 5)).drew = .ok (.slice A3 U3.size c3) w3 := ha3
          have hb2d : w2.drew.heap[wr.heap.size]? = some (.cells #[.int .i64 x, .int .i64 y] 51 (0, 0)) := H2.out.2.2.2
          have p2 := fun o => cell_of_row (w2.alloc o) wr.heap.size 1 _ _ (0, 0) (((FrO.refl w0.heap.size w2).alloc hB2 o).keep hb2d (by decide))
          have p3 := cell_of_row w3 wr.heap.size 1 _ _ (0, 0) (hf3.keep hb2d (by decide))
          have hfw3 : FrO w0.heap.size w w3 := (HFW.out.trans (H2.out.2.1.drew)).trans hf3
          have HN3 := Lib.hid (number_buf hb3 y hwf.2 (Nat.le_trans HB.out.1.size hfw3.1.size) (by omega) (HB.out.2.on hfw3.1))
          have H3 := Lib.hid (And.intro hfw3 hU3)
          clear hb3 hf3 hU3 hfw3 hb2d
          clear q0 ha3
          go_region_law (first
            | (refine step_append_run rfl _ _ 42 rfl rfl _ _ _ _ rfl rfl ha3d ?_)
            | (go_simp; go_at_call 20; (with_reducible refine HN3.out.mono ?_); rintro e w4 ⟨V4, rfl, hb4, hf4⟩; obtain ⟨A4, c4, rfl, _⟩ := hb4.slice; have H4 := Lib.hid (And.intro hb4 hf4); clear hb4 hf4))
          all_goals
            go_wp2
            refine ⟨⟨j + 1, U3 ++ digB y, by go_num, by omega, by rw [ba_size]; omega, _, _, by first | rfl | (rw [ba_size]), Lib.hid ⟨H4.out.1, H3.out.1.trans H4.out.2, ?_⟩⟩, by simp [intOf]; omega⟩
            rw [← set_step0 H.out.2.2 HTK.out.1 HTK.out.2, show rngB (x, y) = digB x ++ (strB [45] ++ digB y) from if_neg (fun e => hxy e.symm), H3.out.2, H2.out.2.2.1]
            simp only [ba_assoc]
      · have HTK := Lib.hid (And.intro htk h0)
        obtain ⟨V8, w8, ha8, hb8, hf8⟩ := buf_byte (H.out.1.alloc (.cells #[.int .i64 x, .int .i64 y] 51)) 32 32 rfl (Nat.le_trans (Nat.le_trans hBw H.out.2.1.1.size) (by simp)) (by omega)
        rw [show (wr.alloc (.cells #[.int .i64 x, .int .i64 y] 51)).heap.size = wr.heap.size + 1 by simp] at ha8
        obtain ⟨U8, hU8⟩ : ∃ T, T = U ++ strB [32] := ⟨_, rfl⟩
        have hU8s : U8.size ≤ U.size + 1 := by rw [hU8, ba_size, strB_size]; exact Nat.le_refl _
        rw [← hU8] at hb8
        obtain ⟨A8, c8, rfl, _⟩ := hb8.slice
        have hbx8 := hf8.keep (k := wr.heap.size) (heap_alloc_new wr (.cells #[.int .i64 x, .int .i64 y] 51)) (by decide)
        have r0 := cell_of_row w8 wr.heap.size 0 _ _ (0, 0) hbx8
        have HBX := Lib.hid hbx8
        have hf8o := Lib.hid ((H.out.2.1.alloc hBw (.cells #[.int .i64 x, .int .i64 y] 51)).trans hf8)
        have hb8o := Lib.hid hb8
        have HU8 := Lib.hid hU8
        clear htk hb8 hf8 hU8 hbx8
        have HFW := Lib.hid hf8o.out
        have HN := Lib.hid (number_buf hb8o.out x hwf.1 (Nat.le_trans HB.out.1.size hf8o.out.1.size) (by omega) (HB.out.2.on hf8o.out.1))
        by_cases hxy : x = y
        · subst hxy
          have hne : (x != x) = false := by simp
          go_wp2_with (first
            | (at_builtin; refine wpList_append_run rfl _ _ 42 rfl rfl _ _ _ _ rfl rfl ha8 ?_)
            | (go_at_call 20; (with_reducible refine HN.out.mono ?_); rintro e w2 ⟨V2, rfl, hb2, hf2⟩; obtain ⟨A2, c2, rfl, _⟩ := hb2.slice; have hbx := hf2.keep (k := wr.heap.size) HBX.out (by decide); have q0 := cell_of_row w2 wr.heap.size 0 _ _ (0, 0) hbx; have q1 := cell_of_row w2 wr.heap.size 1 _ _ (0, 0) hbx; have H2 := Lib.hid (And.intro hb2 hf2); clear hb2 hf2 hbx))
          refine ⟨⟨j + 1, U8 ++ digB x, by go_num, by omega, by rw [ba_size]; omega, _, _, by first | rfl | (rw [ba_size]), Lib.hid ⟨H2.out.1, HFW.out.trans H2.out.2, ?_⟩⟩, by simp [intOf]; omega⟩
          rw [← set_step1 H.out.2.2 HTK.out.1 HTK.out.2, show rngB (x, x) = digB x from if_pos rfl]
          rw [HU8.out]
        · have hne : (x != y) = true := by simpa using hxy
          go_wp2_with (first
            | (at_builtin; refine wpList_append_run rfl _ _ 42 rfl rfl _ _ _ _ rfl rfl ha8 ?_)
            | (go_at_call 20; (with_reducible refine HN.out.mono ?_); rintro e w2 ⟨V2, rfl, hb2, hf2⟩; obtain ⟨U2, hU2⟩ : ∃ T, T = U8 ++ digB x := ⟨_, rfl⟩; rw [← hU2] at hb2; have hU2s : U2.size ≤ U8.size + 21 := (by rw [hU2, ba_size]; omega); obtain ⟨A2, c2, rfl, _⟩ := hb2.slice; have hbx := hf2.keep (k := wr.heap.size) HBX.out (by decide); have q0 := cell_of_row w2 wr.heap.size 0 _ _ (0, 0) hbx; have q1 := cell_of_row w2 wr.heap.size 1 _ _ (0, 0) hbx; have H2 := Lib.hid (And.intro hb2 (And.intro hf2 (And.intro hU2 hbx))); clear hb2 hf2 hU2 hbx))
          have hB2 : w0.heap.size ≤ w2.heap.size := Nat.le_trans HB.out.1.size (Nat.le_trans HFW.out.1.size H2.out.2.1.1.size)
          obtain ⟨V3, w3, ha3, hb3, hf3⟩ := buf_byte (w := w2.drew) H2.out.1 45 45 rfl (by exact hB2) (by omega)
          obtain ⟨U3, hU3⟩ : ∃ T, T = U2 ++ strB [45] := ⟨_, rfl⟩
          have hU3s : U3.size ≤ U2.size + 1 := by rw [hU3, ba_size, strB_size]; exact Nat.le_refl _
          rw [← hU3] at hb3
          obtain ⟨A3, c3, rfl, _⟩ := hb3.slice
          have ha3d : (Builtin.append_ #[42, 42] 42 #[.slice A2 U2.size c2, .slice (some ⟨w2.heap.size, 0, none⟩) 1 1]).run Tryd.prog (w2.alloc (.cells #[.int .u8 45] 5)).drew = .ok (.slice A3 U3.size c3) w3 := ha3
          have hb2d : w2.drew.heap[wr.heap.size]? = some (.cells #[.int .i64 x, .int .i64 y] 51 (0, 0)) := H2.out.2.2.2
          have p2 := fun o => cell_of_row (w2.alloc o) wr.heap.size 1 _ _ (0, 0) (((FrO.refl w0.heap.size w2).alloc hB2 o).keep hb2d (by decide))
          have p3 := cell_of_row w3 wr.heap.size 1 _ _ (0, 0) (hf3.keep hb2d (by decide))
          have hfw3 : FrO w0.heap.size w w3 := (HFW.out.trans (H2.out.2.1.drew)).trans hf3
          have HN3 := Lib.hid (number_buf hb3 y hwf.2 (Nat.le_trans HB.out.1.size hfw3.1.size) (by omega) (HB.out.2.on hfw3.1))
          have H3 := Lib.hid (And.intro hfw3 hU3)
          clear hb3 hf3 hU3 hfw3 hb2d
          clear q0 ha3
          go_region_law (first
            | (refine step_append_run rfl _ _ 42 rfl rfl _ _ _ _ rfl rfl ha3d ?_)
            | (go_simp; go_at_call 20; (with_reducible refine HN3.out.mono ?_); rintro e w4 ⟨V4, rfl, hb4, hf4⟩; obtain ⟨A4, c4, rfl, _⟩ := hb4.slice; have H4 := Lib.hid (And.intro hb4 hf4); clear hb4 hf4))
          all_goals
            go_wp2
            refine ⟨⟨j + 1, U3 ++ digB y, by go_num, by omega, by rw [ba_size]; omega, _, _, by first | rfl | (rw [ba_size]), Lib.hid ⟨H4.out.1, H3.out.1.trans H4.out.2, ?_⟩⟩, by simp [intOf]; omega⟩
            rw [← set_step1 H.out.2.2 HTK.out.1 HTK.out.2, show rngB (x, y) = digB x ++ (strB [45] ++ digB y) from if_neg (fun e => hxy e.symm), H3.out.2, H2.out.2.2.1]
            rw [HU8.out]
            simp only [ba_assoc]
    · have hjn : j = n := by omega
      subst hjn
      obtain ⟨V9, w9, ha9, hb9, hf9⟩ := buf_byte H.out.1 125 125 rfl (by have := HB.out.1.size; have := H.out.2.1.1.size; omega) (by omega)
      have H9 := Lib.hid (And.intro hb9 hf9)
      clear hb9 hf9
      go_wp2_with (at_builtin; refine wpList_append_run rfl _ _ 42 rfl rfl _ _ _ _ rfl rfl ha9 ?_)
      go_ret
      refine ⟨V9, rfl, ?_, H.out.2.1.trans H9.out.2⟩
      have := H9.out.1
      rw [H.out.2.2, List.take_of_length_le (by have := HR.out.1; omega)] at this
      exact this
end Go.Proofs.YtegcebgoiocakaaDoor
