/- Patterns in parentheses, one behind the other, with a bar between. -/
import Derived.Test.YtegcebgoiocakaaDoorA05
import Derived.Test.YtegcebgoiocakaaDoorA06
import Derived.Test.YtegcebgoiocakaaDoorA10
import Derived.Test.YtegcebgoiocakaaDoorA13
import Derived.Test.YtegcebgoiocakaaDoorA14
import Derived.Test.YtegcebgoiocakaaDoorA15
import Derived.Test.YtegcebgoiocakaaDoorA19
import Derived.Deep.RegionHeldLaw
import Derived.BigQuiet
namespace Go.Proofs.YtegcebgoiocakaaDoor
open Go Go.RowKit
set_option linter.unusedVariables false

section
variable {t : TokL} {l : List TokL} {st : List (Wood × Wood)} {a p : Wood} {lo : Bool}
theorem u_char (h : t.kind = 0) : runU (t :: l) st a p lo = runU l st a (p.app (leaf 1 t.set)) true := by cases st <;> simp [runU, h]
theorem u_count (h : t.kind = 2) : runU (t :: l) st a p lo = if lo = true then runU l st a (repLast t.mn t.mx p) false else none := by cases st <;> simp [runU, h]
theorem u_bar (h : t.kind = 1) (hr : t.r = 124) : runU (t :: l) st a p lo = runU l st (a.app (oneN 4 p)) .nil false := by cases st <;> simp [runU, h, hr]
theorem u_begin (h : t.kind = 1) (hr : t.r = 94) : runU (t :: l) st a p lo = runU l st a (p.app (leaf 2 [])) false := by cases st <;> simp [runU, h, hr]
theorem u_end (h : t.kind = 1) (hr : t.r = 36) : runU (t :: l) st a p lo = runU l st a (p.app (leaf 3 [])) false := by cases st <;> simp [runU, h, hr]
theorem u_open (h : t.kind = 1) (hr : t.r = 40) : runU (t :: l) st a p lo = runU l ((a, p) :: st) .nil .nil false := by cases st <;> simp [runU, h, hr]
theorem u_shut (a' p' : Wood) (h : t.kind = 1) (hr : t.r = 41) : runU (t :: l) ((a', p') :: st) a p lo = runU l st a' (p'.app (finN a p)) true := by simp [runU, h, hr]
theorem u_shut_nil (h : t.kind = 1) (hr : t.r = 41) : runU (t :: l) [] a p lo = none := by simp [runU, h, hr]
theorem d_open (c : Nat) (h : t.kind = 1) (hr : t.r = 40) : depT c (t :: l) = depT (c + 1) l := by rw [depT, if_pos (by unfold isOpen; rw [h, hr]; rfl)]
theorem d_shut (c : Nat) (h : t.kind = 1) (hr : t.r = 41) : depT c (t :: l) = max c (depT (c - 1) l) := by
  have ho : isOpen t = false := open_no (by omega)
  rw [depT, ho, if_neg (by decide), if_pos (by unfold isShut; rw [h, hr]; rfl)]
theorem d_other (c : Nat) (h1 : t.kind ≠ 1 ∨ t.r ≠ 40) (h2 : t.kind ≠ 1 ∨ t.r ≠ 41) : depT c (t :: l) = depT c l := by
  have ho : isOpen t = false := open_no h1
  have hs : isShut t = false := shut_no h2
  rw [depT, ho, if_neg (by decide), hs, if_neg (by decide)]
end
/-- A pattern within parentheses: what stands in them is its tree; what is behind goes on. -/
theorem u_within (x : List TokL) (a p : Wood) (st : List (Wood × Wood)) : ∀ (l : List TokL), (∀ t ∈ l, TokOk t) → ∀ (st' : List (Wood × Wood)) (y z : Wood) (lo : Bool) (S : Wood), runU l st' y z lo = some S →
    runU (l ++ tokS 41 :: x) (st' ++ (a, p) :: st) y z lo = runU x st a (p.app S) true ∧ depT (st'.length + 1) (l ++ tokS 41 :: x) = max (depT st'.length l + 1) (depT 0 x)
  | [], _, st', y, z, lo, S, h => by
    rcases st' with _ | ⟨q, st'⟩
    · have h : some (finN y z) = some S := h
      injection h with h
      subst h
      rw [List.nil_append, List.nil_append, u_shut a p rfl rfl, List.length_nil, d_shut _ rfl rfl]
      exact ⟨rfl, rfl⟩
    · cases h
  | t :: l, hok, st', y, z, lo, S, h => by
    have hl : ∀ t ∈ l, TokOk t := fun t ht => hok t (List.mem_cons_of_mem _ ht)
    have ih := u_within x a p st l hl
    rw [List.cons_append]
    rcases hok t (by simp) with h0 | h2 | ⟨h1, hr | hr | hr | hr | hr⟩
    · rw [u_char h0] at h ⊢
      rw [d_other _ (by omega) (by omega), d_other _ (by omega) (by omega)]
      exact ih _ _ _ _ _ h
    · rw [u_count h2] at h ⊢
      cases lo with
      | false => cases h
      | true =>
        rw [if_pos rfl] at h ⊢
        rw [d_other _ (by omega) (by omega), d_other _ (by omega) (by omega)]
        exact ih _ _ _ _ _ h
    · rw [u_bar h1 hr] at h ⊢
      rw [d_other _ (by omega) (by omega), d_other _ (by omega) (by omega)]
      exact ih _ _ _ _ _ h
    · rw [u_begin h1 hr] at h ⊢
      rw [d_other _ (by omega) (by omega), d_other _ (by omega) (by omega)]
      exact ih _ _ _ _ _ h
    · rw [u_end h1 hr] at h ⊢
      rw [d_other _ (by omega) (by omega), d_other _ (by omega) (by omega)]
      exact ih _ _ _ _ _ h
    · rw [u_open h1 hr] at h ⊢
      rw [d_open _ h1 hr, d_open _ h1 hr]
      have := ih ((y, z) :: st') .nil .nil false S h
      rw [List.cons_append, List.length_cons] at this
      exact this
    · rcases st' with _ | ⟨⟨a', p'⟩, st'⟩
      · rw [u_shut_nil h1 hr] at h; cases h
      · rw [u_shut a' p' h1 hr] at h
        rw [List.cons_append, u_shut a' p' h1 hr, List.length_cons, d_shut _ h1 hr, d_shut _ h1 hr, Nat.add_sub_cancel, Nat.add_sub_cancel]
        obtain ⟨k1, k2⟩ := ih st' a' _ true S h
        refine ⟨k1, ?_⟩
        rw [k2]
        omega
/-- The three patterns of two. -/
theorem u_one {l : List TokL} (hok : ∀ t ∈ l, TokOk t) {S : Wood} (h : runU l [] .nil .nil false = some S) (hS : S.len = 1) :
    runU (tokS 40 :: (l ++ [tokS 41])) [] .nil .nil false = some S ∧ depT 0 (tokS 40 :: (l ++ [tokS 41])) = depT 0 l + 1 := by
  obtain ⟨k1, k2⟩ := u_within [] .nil .nil [] l hok [] .nil .nil false S h
  rw [u_open rfl rfl, d_open _ rfl rfl]
  rw [List.nil_append] at k1
  rw [List.length_nil] at k2
  refine ⟨k1.trans ?_, k2.trans ?_⟩
  · show some (oneN 5 (oneN 4 (Wood.nil.app S))) = some S
    rw [show Wood.nil.app S = S from rfl, oneN_one hS, oneN_one hS]
  · rw [depT]; omega
theorem u_two {l m : List TokL} (hl : ∀ t ∈ l, TokOk t) (hm : ∀ t ∈ m, TokOk t) {S T : Wood} (h : runU l [] .nil .nil false = some S) (h2 : runU m [] .nil .nil false = some T) (hS : S.len = 1) (hT : T.len = 1) :
    runU (tokS 40 :: (l ++ tokS 41 :: tokS 40 :: (m ++ [tokS 41]))) [] .nil .nil false = some (.cons 4 [] 0 0 (S.app T) .nil) ∧ depT 0 (tokS 40 :: (l ++ tokS 41 :: tokS 40 :: (m ++ [tokS 41]))) = max (depT 0 l) (depT 0 m) + 1 := by
  obtain ⟨k1, k2⟩ := u_within (tokS 40 :: (m ++ [tokS 41])) .nil .nil [] l hl [] .nil .nil false S h
  obtain ⟨j1, j2⟩ := u_within [] .nil S [] m hm [] .nil .nil false T h2
  rw [u_open rfl rfl, d_open _ rfl rfl]
  rw [List.nil_append] at k1 j1
  rw [List.length_nil] at k2 j2
  rw [show Wood.nil.app S = S from rfl, u_open rfl rfl] at k1
  rw [d_open _ rfl rfl] at k2
  refine ⟨k1.trans (j1.trans ?_), k2.trans ?_⟩
  · show some (oneN 5 (oneN 4 (S.app T))) = _
    rw [oneN_more (op := 4) (by rw [Wood.len_app]; omega)]
    rfl
  · rw [j2, depT]; omega
theorem u_alt {l m : List TokL} (hl : ∀ t ∈ l, TokOk t) (hm : ∀ t ∈ m, TokOk t) {S T : Wood} (h : runU l [] .nil .nil false = some S) (h2 : runU m [] .nil .nil false = some T) (hS : S.len = 1) (hT : T.len = 1) :
    runU (tokS 40 :: (l ++ tokS 41 :: tokS 124 :: tokS 40 :: (m ++ [tokS 41]))) [] .nil .nil false = some (.cons 5 [] 0 0 (S.app T) .nil) ∧ depT 0 (tokS 40 :: (l ++ tokS 41 :: tokS 124 :: tokS 40 :: (m ++ [tokS 41]))) = max (depT 0 l) (depT 0 m) + 1 := by
  obtain ⟨k1, k2⟩ := u_within (tokS 124 :: tokS 40 :: (m ++ [tokS 41])) .nil .nil [] l hl [] .nil .nil false S h
  obtain ⟨j1, j2⟩ := u_within [] S .nil [] m hm [] .nil .nil false T h2
  rw [u_open rfl rfl, d_open _ rfl rfl]
  rw [List.nil_append] at k1 j1
  rw [List.length_nil] at k2 j2
  rw [show Wood.nil.app S = S from rfl, u_bar rfl rfl, u_open rfl rfl, oneN_one hS, show Wood.nil.app S = S from rfl] at k1
  rw [d_other _ (.inr (by decide)) (.inr (by decide)), d_open _ rfl rfl] at k2
  refine ⟨k1.trans (j1.trans ?_), k2.trans ?_⟩
  · show some (oneN 5 (S.app (oneN 4 (Wood.nil.app T)))) = _
    rw [show Wood.nil.app T = T from rfl, oneN_one hT, oneN_more (op := 5) (by rw [Wood.len_app]; omega)]
  · rw [j2, depT]; omega
end Go.Proofs.YtegcebgoiocakaaDoor
/- A token is one of the kinds. -/
namespace Go.Proofs.YtegcebgoiocakaaDoor
open Go Go.RowKit
set_option linter.unusedVariables false

theorem tokL_ok {l r : List Int} {t : TokL} (h : tokL l = some (t, r)) : TokOk t := by
  rcases l with _ | ⟨x, l⟩
  · cases h
  unfold tokL at h
  try dsimp only at h
  unfold TokOk
  split at h
  · rename_i hx
    injection h with h; injection h with h _; subst h
    refine .inr (.inr ⟨rfl, ?_⟩)
    simp only [tokS]; omega
  split at h
  · injection h with h; injection h with h _; subst h; exact .inr (.inl rfl)
  split at h
  · injection h with h; injection h with h _; subst h; exact .inr (.inl rfl)
  split at h
  · injection h with h; injection h with h _; subst h; exact .inr (.inl rfl)
  split at h
  · exact .inr (.inl (braceL_kind h))
  split at h
  · injection h with h; injection h with h _; subst h; exact .inl rfl
  split at h
  · obtain ⟨⟨a, b⟩, h1, h⟩ := Option.map_eq_some_iff.1 h
    injection h with h _; subst h; exact .inl rfl
  split at h
  · rcases l with _ | ⟨e, l⟩
    · cases h
    · obtain ⟨p, _, h⟩ := Option.map_eq_some_iff.1 h
      injection h with h _; subst h; exact .inl rfl
  split at h
  · cases h
  · injection h with h; injection h with h _; subst h; exact .inl rfl
end Go.Proofs.YtegcebgoiocakaaDoor
/- The document's Get, of whatever text. -/
namespace Go.Proofs.YtegcebgoiocakaaDoor
open Go Go.RowKit


end Go.Proofs.YtegcebgoiocakaaDoor
/- The document's points. -/
namespace Go.Proofs.YtegcebgoiocakaaDoor
open Go Go.RowKit
set_option linter.unusedVariables false
set_option maxRecDepth 20000

theorem rgetF_back (l : List Int) : ∀ (f n : Nat), rgetF l f n = (65533, 1) ∨ putI (rgetF l f n).1 = l.take (rgetF l f n).2.toNat
  | 0, n => .inl rfl
  | f + 1, n => by
    unfold rgetF
    by_cases h : okI l n = true
    · rw [if_pos h]
      right
      unfold okI at h
      rw [Bool.and_eq_true, decide_eq_true_iff] at h
      simpa using h.2
    · rw [if_neg h]
      exact rgetF_back l f (n + 1)
/-- A code point put is the octets that it was got of, just where it has as many. -/
theorem get_back {l : List Int} (hl : l ≠ []) (hb : ∀ x ∈ l, 0 ≤ x ∧ x < 256) : (putI (getI l).1 = l.take (getI l).2.toNat) ↔ (getI l).2 = szI (getI l).1 := by
  have hbd := getI_bounds hl
  have his := getI_is l
  rcases l with _ | ⟨x, t⟩
  · exact absurd rfl hl
  have hs := get_same x t (hb x (by simp)).1
  have hsz := szI_len his
  constructor
  · intro h
    have := congrArg List.length h
    rw [List.length_take] at this
    omega
  · intro h
    rcases rgetF_back (x :: t) 4 1 with h1 | h1
    · rw [hs, h1] at h
      exact absurd h (by decide)
    · rw [hs]; exact h1
theorem nums_drop (s : ByteArray) (k : Nat) : nums (s.extract k s.size) = (nums s).drop k := by
  unfold nums
  rw [← List.map_drop]
  congr 1
  rw [ByteArray.data_extract, Array.toList_extract, List.extract_eq_take_drop]
  exact List.take_of_length_le (by rw [List.length_drop]; exact Nat.le_refl _)
end Go.Proofs.YtegcebgoiocakaaDoor
/- Texts one behind the other: their code points, their trees. -/
namespace Go.Proofs.YtegcebgoiocakaaDoor
open Go Go.RowKit
set_option linter.unusedVariables false

theorem pointsL_app : ∀ (N : Nat) (l xs : List Int), l.length ≤ N → (∀ x ∈ l, 0 ≤ x ∧ x < 256) → pointsL l = some xs → ∀ m : List Int, pointsL (l ++ m) = (pointsL m).map fun ys => xs ++ ys
  | N, [], xs, _, _, h, m => by
    have h : some [] = some xs := h
    injection h with h
    subst h
    rw [List.nil_append]
    cases pointsL m <;> rfl
  | 0, _ :: _, _, hN, _, _, _ => by simp at hN
  | N + 1, y :: l, xs, hN, hb, h, m => by
    have hne : y :: l ≠ [] := by simp
    have hbd := getI_bounds hne
    have his := getI_is (y :: l)
    have hbk := get_back hne hb
    rw [pointsL_cons hne] at h
    split at h
    · rename_i hz
      obtain ⟨r, hr, e⟩ := Option.map_eq_some_iff.1 h
      subst e
      have hput := hbk.2 hz
      obtain ⟨c, hc⟩ : ∃ c, c = (getI (y :: l)).1 := ⟨_, rfl⟩
      obtain ⟨k, hk⟩ : ∃ k, k = (getI (y :: l)).2.toNat := ⟨_, rfl⟩
      rw [← hk] at hput hr
      rw [← hc] at hput his
      have hsplit : y :: l = putI c ++ (y :: l).drop k := by rw [hput, List.take_append_drop]
      have hg : getI ((y :: l) ++ m) = (c, ((putI c).length : Int)) := by
        rw [hsplit, List.append_assoc]
        exact get_put his _
      have hkl : (putI c).length = k := by rw [hput, List.length_take]; omega
      have hne2 : (y :: l) ++ m ≠ [] := by simp
      rw [pointsL_cons hne2, hg]
      dsimp only
      rw [if_pos (szI_len his).symm, hkl, show ((k : Nat) : Int).toNat = k by simp, List.drop_append_of_le_length (by omega)]
      have ih := pointsL_app N ((y :: l).drop k) r (by rw [List.length_drop]; rw [List.length_cons] at hN ⊢; omega) (fun x hx => hb x (List.mem_of_mem_drop hx)) hr m
      rw [ih, Option.map_map, ← hc]
      rfl
    · cases h
/-- A pattern's code points and tokens. -/
structure PatT (s : ByteArray) (S : Wood) (xs : List Int) (ts : List TokL) : Prop where
  pts : pointsL (nums s) = some xs
  toks : toksL xs.length xs = some ts
  ok : ∀ t ∈ ts, TokOk t
  run : runU ts [] .nil .nil false = some S
  dep : depT 0 ts ≤ 10
  one : S.len = 1
theorem toksL_ok : ∀ (f : Nat) (l : List Int) (ts : List TokL), toksL f l = some ts → ∀ t ∈ ts, TokOk t
  | _, [], ts, h, t, ht => by
    rw [toksL] at h
    · injection h with h; subst h; cases ht
  | 0, _ :: _, ts, h, t, ht => by cases h
  | f + 1, y :: l, ts, h, t, ht => by
    rw [toksL] at h
    rcases hk : tokL (y :: l) with _ | ⟨u, l'⟩
    · rw [hk] at h; cases h
    · rw [hk] at h
      obtain ⟨us, hus, e⟩ := Option.map_eq_some_iff.1 h
      subst e
      rcases List.mem_cons.1 ht with rfl | ht
      · exact tokL_ok hk
      · exact toksL_ok f l' us hus t ht
theorem runU_len : ∀ (ts : List TokL) (st : List (Wood × Wood)) (a p : Wood) (lo : Bool) (S : Wood), runU ts st a p lo = some S → ∃ a' p', S = finN a' p'
  | [], [], a, p, _, S, h => by
    have h : some (finN a p) = some S := h
    injection h with h
    exact ⟨a, p, h.symm⟩
  | [], _ :: _, _, _, _, _, h => by cases h
  | t :: l, st, a, p, lo, S, h => by
    unfold runU at h
    split at h
    · exact runU_len l _ _ _ _ S h
    split at h
    · split at h
      · exact runU_len l _ _ _ _ S h
      · cases h
    split at h
    · exact runU_len l _ _ _ _ S h
    split at h
    · exact runU_len l _ _ _ _ S h
    split at h
    · exact runU_len l _ _ _ _ S h
    split at h
    · split at h
      · cases h
      · exact runU_len l _ _ _ _ S h
    · exact runU_len l _ _ _ _ S h
theorem pat_of {s : ByteArray} {S : Wood} (h : parseT s = some S) : ∃ xs ts, PatT s S xs ts := by
  unfold parseT at h
  obtain ⟨xs, h1, h2⟩ := Option.bind_eq_some_iff.1 h
  unfold treeL at h2
  obtain ⟨ts, h3, h4⟩ := Option.bind_eq_some_iff.1 h2
  have hok := toksL_ok _ _ _ h3
  rw [runT_dep 0 ts hok [] _ _ _ (by simp)] at h4
  split at h4
  · rename_i hd
    obtain ⟨a', p', e⟩ := runU_len _ _ _ _ _ _ h4
    exact ⟨xs, ts, h1, h3, hok, h4, by simpa using hd, by rw [e]; exact oneN_len _ _⟩
  · cases h4
theorem parse_of {q : ByteArray} {xs : List Int} {ts : List TokL} {S : Wood} (h1 : pointsL (nums q) = some xs) (h2 : toksL xs.length xs = some ts) (hok : ∀ t ∈ ts, TokOk t) (h3 : runU ts [] .nil .nil false = some S) : parseT q = if depT 0 ts ≤ 10 then some S else none := by
  unfold parseT
  rw [h1]
  show treeL xs = _
  unfold treeL
  rw [h2]
  show runT 0 ts [] .nil .nil false = _
  rw [runT_dep 0 ts hok [] _ _ _ (by simp), h3, List.length_nil, Nat.zero_add]
section
variable {s t : ByteArray} {S T : Wood} {xs ys : List Int} {ts us : List TokL}
theorem sign_pts (c : Int) (hc : c = 40 ∨ c = 41 ∨ c = 124) : pointsL [c] = some [c] := by rcases hc with rfl | rfl | rfl <;> kernel_rfl
theorem sign_toks (c : Int) (hc : c = 40 ∨ c = 41 ∨ c = 124) : toksL [c].length [c] = some [tokS c] := by rcases hc with rfl | rfl | rfl <;> rfl
theorem sign_byte (c : Int) (hc : c = 40 ∨ c = 41 ∨ c = 124) : ∀ x ∈ [c], 0 ≤ x ∧ x < 256 := fun x hx => by rw [List.mem_singleton] at hx; omega
/-- Code points and tokens of what is a sign, and what stands behind it. -/
theorem sign_then {c : Int} (hc : c = 40 ∨ c = 41 ∨ c = 124) {m zs : List Int} {vs : List TokL} (h1 : pointsL m = some zs) (h2 : toksL zs.length zs = some vs) : pointsL (c :: m) = some (c :: zs) ∧ toksL (c :: zs).length (c :: zs) = some (tokS c :: vs) := by
  have k1 := pointsL_app 1 [c] [c] (by simp) (sign_byte c hc) (sign_pts c hc) m
  have k2 := toksL_app 1 [c] [tokS c] (by simp) (sign_toks c hc) zs
  rw [h1] at k1
  rw [h2] at k2
  exact ⟨k1, k2⟩
theorem pat_then (h : PatT s S xs ts) {m zs : List Int} {vs : List TokL} (h1 : pointsL m = some zs) (h2 : toksL zs.length zs = some vs) : pointsL (nums s ++ m) = some (xs ++ zs) ∧ toksL (xs ++ zs).length (xs ++ zs) = some (ts ++ vs) := by
  have k1 := pointsL_app _ (nums s) xs (Nat.le_refl _) (nums_byte s) h.pts m
  have k2 := toksL_app _ xs ts (Nat.le_refl _) h.toks zs
  rw [h1] at k1
  rw [h2] at k2
  exact ⟨k1, k2⟩
theorem tokS_ok {c : Int} (hc : c = 40 ∨ c = 41 ∨ c = 124) : TokOk (tokS c) := .inr (.inr ⟨rfl, by show c = 124 ∨ c = 94 ∨ c = 36 ∨ c = 40 ∨ c = 41; omega⟩)
/-- (s) -/
theorem parse_one (h : PatT s S xs ts) {q : ByteArray} (hq : nums q = 40 :: (nums s ++ [41])) : parseT q = if depT 0 ts + 1 ≤ 10 then some S else none := by
  obtain ⟨a1, a2⟩ := pat_then h (sign_pts 41 (by omega)) (sign_toks 41 (by omega))
  obtain ⟨b1, b2⟩ := sign_then (c := 40) (by omega) a1 a2
  rw [← hq] at b1
  obtain ⟨u1, u2⟩ := u_one h.ok h.run h.one
  rw [parse_of b1 b2 (fun t ht => by
    rcases List.mem_cons.1 ht with rfl | ht
    · exact tokS_ok (by omega)
    rcases List.mem_append.1 ht with ht | ht
    · exact h.ok t ht
    · rw [List.mem_singleton] at ht; subst ht; exact tokS_ok (by omega)) u1, u2]
/-- (s)(t) -/
theorem parse_two (h : PatT s S xs ts) (k : PatT t T ys us) {q : ByteArray} (hq : nums q = 40 :: (nums s ++ 41 :: 40 :: (nums t ++ [41]))) : parseT q = if max (depT 0 ts) (depT 0 us) + 1 ≤ 10 then some (.cons 4 [] 0 0 (S.app T) .nil) else none := by
  obtain ⟨a1, a2⟩ := pat_then k (sign_pts 41 (by omega)) (sign_toks 41 (by omega))
  obtain ⟨b1, b2⟩ := sign_then (c := 40) (by omega) a1 a2
  obtain ⟨c1, c2⟩ := sign_then (c := 41) (by omega) b1 b2
  obtain ⟨d1, d2⟩ := pat_then h c1 c2
  obtain ⟨e1, e2⟩ := sign_then (c := 40) (by omega) d1 d2
  rw [← hq] at e1
  obtain ⟨u1, u2⟩ := u_two h.ok k.ok h.run k.run h.one k.one
  rw [parse_of e1 e2 (fun v hv => by
    simp only [List.mem_cons, List.mem_append, List.not_mem_nil, or_false] at hv
    rcases hv with rfl | hv | rfl | rfl | hv | rfl
    · exact tokS_ok (by omega)
    · exact h.ok v hv
    · exact tokS_ok (by omega)
    · exact tokS_ok (by omega)
    · exact k.ok v hv
    · exact tokS_ok (by omega)) u1, u2]
/-- (s)|(t) -/
theorem parse_alt (h : PatT s S xs ts) (k : PatT t T ys us) {q : ByteArray} (hq : nums q = 40 :: (nums s ++ 41 :: 124 :: 40 :: (nums t ++ [41]))) : parseT q = if max (depT 0 ts) (depT 0 us) + 1 ≤ 10 then some (.cons 5 [] 0 0 (S.app T) .nil) else none := by
  obtain ⟨a1, a2⟩ := pat_then k (sign_pts 41 (by omega)) (sign_toks 41 (by omega))
  obtain ⟨b1, b2⟩ := sign_then (c := 40) (by omega) a1 a2
  obtain ⟨b3, b4⟩ := sign_then (c := 124) (by omega) b1 b2
  obtain ⟨c1, c2⟩ := sign_then (c := 41) (by omega) b3 b4
  obtain ⟨d1, d2⟩ := pat_then h c1 c2
  obtain ⟨e1, e2⟩ := sign_then (c := 40) (by omega) d1 d2
  rw [← hq] at e1
  obtain ⟨u1, u2⟩ := u_alt h.ok k.ok h.run k.run h.one k.one
  rw [parse_of e1 e2 (fun v hv => by
    simp only [List.mem_cons, List.mem_append, List.not_mem_nil, or_false] at hv
    rcases hv with rfl | hv | rfl | rfl | rfl | hv | rfl
    · exact tokS_ok (by omega)
    · exact h.ok v hv
    · exact tokS_ok (by omega)
    · exact tokS_ok (by omega)
    · exact tokS_ok (by omega)
    · exact k.ok v hv
    · exact tokS_ok (by omega)) u1, u2]
end
end Go.Proofs.YtegcebgoiocakaaDoor
/- How deep a text's parentheses stand, over its octets. -/
namespace Go.Proofs.YtegcebgoiocakaaDoor
open Go Go.RowKit
set_option linter.unusedVariables false

/-- What is left of a class behind its bracket, from its end on. -/
def skipB : List Int → List Int
  | [] => []
  | [c] => if c = 93 then [c] else []
  | c :: d :: l => if c = 93 then c :: d :: l else if c = 92 then skipB l else skipB (d :: l)
theorem skipB_shut (l : List Int) : skipB (93 :: l) = 93 :: l := by
  rcases l with _ | ⟨d, l⟩ <;> simp [skipB]
theorem skipB_other {c : Int} (h : c ≠ 93) (h2 : c ≠ 92) (l : List Int) : skipB (c :: l) = skipB l := by
  rcases l with _ | ⟨d, l⟩ <;> simp [skipB, h, h2]
theorem skipB_esc (l : List Int) : skipB (92 :: l) = skipB (l.drop 1) := by
  rcases l with _ | ⟨d, l⟩ <;> simp [skipB]
theorem skipB_len : ∀ (N : Nat) (l : List Int), l.length ≤ N → (skipB l).length ≤ l.length
  | _, [], _ => by simp [skipB]
  | 0, _ :: _, h => by simp at h
  | N + 1, c :: l, h => by
    rw [List.length_cons] at h
    by_cases h3 : c = 93
    · subst h3; rw [skipB_shut]; exact Nat.le_refl _
    by_cases h2 : c = 92
    · subst h2
      rw [skipB_esc]
      have hd : (l.drop 1).length ≤ l.length := by rw [List.length_drop]; omega
      have := skipB_len N (l.drop 1) (by omega)
      rw [List.length_cons]; omega
    · rw [skipB_other h3 h2]
      have := skipB_len N l (by omega)
      rw [List.length_cons]; omega
/-- The walk: m is the most so far, n what stands open. -/
def deepO : Nat → List Int → Int → Int → Int
  | _, [], m, _ => m
  | 0, _ :: _, m, _ => m
  | f + 1, c :: l, m, n =>
    if c = 92 then deepO f (l.drop 1) m n
    else if c = 91 then deepO f ((skipB l).drop 1) m n
    else if c = 40 then deepO f l (max m (n + 1)) (n + 1)
    else if c = 41 then deepO f l m (n - 1)
    else deepO f l m n
theorem deepO_fuel : ∀ (f : Nat) (l : List Int) (m n : Int), l.length ≤ f → deepO f l m n = deepO l.length l m n
  | 0, [], _, _, _ => rfl
  | 0, _ :: _, _, _, h => by simp at h
  | f + 1, [], _, _, _ => rfl
  | f + 1, c :: l, m, n, h => by
    rw [List.length_cons] at h
    have h1 : (l.drop 1).length ≤ l.length := by rw [List.length_drop]; omega
    have h2 : ((skipB l).drop 1).length ≤ l.length := by
      have := skipB_len _ l (Nat.le_refl _)
      rw [List.length_drop]; omega
    rw [List.length_cons, deepO, deepO]
    rw [deepO_fuel f (l.drop 1) m n (by omega), deepO_fuel l.length (l.drop 1) m n h1, deepO_fuel f ((skipB l).drop 1) m n (by omega), deepO_fuel l.length ((skipB l).drop 1) m n h2, deepO_fuel f l _ _ (by omega), deepO_fuel f l _ _ (by omega), deepO_fuel f l _ _ (by omega)]
def deepL (l : List Int) (m n : Int) : Int := deepO l.length l m n
section
variable (l : List Int) (m n : Int)
theorem deep_nil : deepL [] m n = m := rfl
theorem deep_esc : deepL (92 :: l) m n = deepL (l.drop 1) m n := by
  have h1 : (l.drop 1).length ≤ l.length := by rw [List.length_drop]; omega
  unfold deepL
  rw [List.length_cons, deepO, if_pos rfl, deepO_fuel _ _ _ _ h1]
theorem deep_class : deepL (91 :: l) m n = deepL ((skipB l).drop 1) m n := by
  have h2 : ((skipB l).drop 1).length ≤ l.length := by
    have := skipB_len _ l (Nat.le_refl _)
    rw [List.length_drop]; omega
  unfold deepL
  rw [List.length_cons, deepO, if_neg (by decide), if_pos rfl, deepO_fuel _ _ _ _ h2]
theorem deep_open : deepL (40 :: l) m n = deepL l (max m (n + 1)) (n + 1) := by
  unfold deepL
  rw [List.length_cons, deepO, if_neg (by decide), if_neg (by decide), if_pos rfl]
theorem deep_shut : deepL (41 :: l) m n = deepL l m (n - 1) := by
  unfold deepL
  rw [List.length_cons, deepO, if_neg (by decide), if_neg (by decide), if_neg (by decide), if_pos rfl]
theorem deep_other {c : Int} (h1 : c ≠ 92) (h2 : c ≠ 91) (h3 : c ≠ 40) (h4 : c ≠ 41) : deepL (c :: l) m n = deepL l m n := by
  unfold deepL
  rw [List.length_cons, deepO, if_neg h1, if_neg h2, if_neg h3, if_neg h4]
end
/-! ### Octets and code points -/
theorem deep_high : ∀ (ys l : List Int) (m n : Int), (∀ y ∈ ys, 128 ≤ y) → deepL (ys ++ l) m n = deepL l m n
  | [], l, m, n, _ => rfl
  | y :: ys, l, m, n, h => by
    have := h y (by simp)
    rw [List.cons_append, deep_other _ _ _ (by omega) (by omega) (by omega) (by omega)]
    exact deep_high ys l m n fun y hy => h y (List.mem_cons_of_mem _ hy)
theorem skipB_high : ∀ (ys l : List Int), (∀ y ∈ ys, 128 ≤ y) → skipB (ys ++ l) = skipB l
  | [], l, _ => rfl
  | y :: ys, l, h => by
    have := h y (by simp)
    rw [List.cons_append, skipB_other (by omega) (by omega)]
    exact skipB_high ys l fun y hy => h y (List.mem_cons_of_mem _ hy)
theorem putI_cases {c : Int} (h : isI c = true) : (c < 128 ∧ putI c = [c]) ∨ (128 ≤ c ∧ ∀ y ∈ putI c, 128 ≤ y) := by
  have := isI_cases h
  unfold putI
  by_cases h1 : c < 128
  · left; exact ⟨h1, by simp [h1]⟩
  · right
    refine ⟨by omega, fun y hy => ?_⟩
    (repeat' split at hy) <;> simp only [List.mem_cons, List.not_mem_nil, or_false] at hy <;> omega
/-- What is left of a class, of octets: what is left of its code points. -/
theorem skipB_put : ∀ (N : Nat) (xs : List Int), xs.length ≤ N → (∀ x ∈ xs, isI x = true) → skipB (putAll xs) = putAll (skipB xs)
  | _, [], _, _ => rfl
  | 0, _ :: _, h, _ => by simp at h
  | N + 1, c :: xs, h, hi => by
    rw [List.length_cons] at h
    have hx : ∀ x ∈ xs, isI x = true := fun x hx => hi x (List.mem_cons_of_mem _ hx)
    have ih := skipB_put N xs (by omega) hx
    have e : putAll (c :: xs) = putI c ++ putAll xs := rfl
    rw [e]
    rcases putI_cases (hi c (by simp)) with ⟨h1, h2⟩ | ⟨h1, h2⟩
    · rw [h2, List.singleton_append]
      by_cases h3 : c = 93
      · subst h3
        rw [skipB_shut, skipB_shut, e, h2]; rfl
      by_cases h4 : c = 92
      · subst h4
        rw [skipB_esc, skipB_esc]
        rcases xs with _ | ⟨d, xs⟩
        · rfl
        · have e2 : putAll (d :: xs) = putI d ++ putAll xs := rfl
          have ih2 := skipB_put N xs (by rw [List.length_cons] at h; omega) fun x hx2 => hx x (List.mem_cons_of_mem _ hx2)
          rw [List.drop_succ_cons, List.drop_zero, e2]
          rcases putI_cases (hx d (by simp)) with ⟨g1, g2⟩ | ⟨g1, g2⟩
          · rw [g2, List.singleton_append, List.drop_succ_cons, List.drop_zero, ih2]
          · have hl := putI_len d
            rw [List.drop_append_of_le_length (by omega), skipB_high _ _ (fun y hy => g2 y (List.mem_of_mem_drop hy)), ih2]
      · rw [skipB_other h3 h4, skipB_other h3 h4, ih]
    · rw [skipB_high _ _ h2, skipB_other (by omega) (by omega), ih]
theorem skipB_mem : ∀ (N : Nat) (xs : List Int), xs.length ≤ N → ∀ x ∈ skipB xs, x ∈ xs
  | _, [], _, x, hx => by simp [skipB] at hx
  | 0, _ :: _, h, _, _ => by simp at h
  | N + 1, c :: l, h, x, hx => by
    rw [List.length_cons] at h
    by_cases h3 : c = 93
    · subst h3; rw [skipB_shut] at hx; exact hx
    by_cases h2 : c = 92
    · subst h2
      rw [skipB_esc] at hx
      have := skipB_mem N (l.drop 1) (by rw [List.length_drop]; omega) x hx
      exact List.mem_cons_of_mem _ (List.mem_of_mem_drop this)
    · rw [skipB_other h3 h2] at hx
      exact List.mem_cons_of_mem _ (skipB_mem N l (by omega) x hx)
theorem skipB_cases : ∀ (N : Nat) (xs : List Int), xs.length ≤ N → skipB xs = [] ∨ ∃ l, skipB xs = 93 :: l
  | _, [], _ => .inl rfl
  | 0, _ :: _, h => by simp at h
  | N + 1, c :: l, h => by
    rw [List.length_cons] at h
    by_cases h3 : c = 93
    · subst h3; rw [skipB_shut]; exact .inr ⟨l, rfl⟩
    by_cases h2 : c = 92
    · subst h2
      rw [skipB_esc]
      exact skipB_cases N (l.drop 1) (by rw [List.length_drop]; omega)
    · rw [skipB_other h3 h2]
      exact skipB_cases N l (by omega)
theorem deep_put : ∀ (N : Nat) (xs : List Int), xs.length ≤ N → (∀ x ∈ xs, isI x = true) → ∀ m n : Int, deepL (putAll xs) m n = deepL xs m n
  | _, [], _, _, _, _ => rfl
  | 0, _ :: _, h, _, _, _ => by simp at h
  | N + 1, c :: xs, h, hi, m, n => by
    rw [List.length_cons] at h
    have hx : ∀ x ∈ xs, isI x = true := fun x hx => hi x (List.mem_cons_of_mem _ hx)
    have ih := deep_put N xs (by omega) hx
    have e : putAll (c :: xs) = putI c ++ putAll xs := rfl
    rw [e]
    rcases putI_cases (hi c (by simp)) with ⟨h1, h2⟩ | ⟨h1, h2⟩
    · rw [h2, List.singleton_append]
      by_cases h4 : c = 92
      · subst h4
        rw [deep_esc, deep_esc]
        rcases xs with _ | ⟨d, xs⟩
        · rfl
        · have e2 : putAll (d :: xs) = putI d ++ putAll xs := rfl
          have ih2 := deep_put N xs (by rw [List.length_cons] at h; omega) fun x hx2 => hx x (List.mem_cons_of_mem _ hx2)
          rw [List.drop_succ_cons, List.drop_zero, e2]
          rcases putI_cases (hx d (by simp)) with ⟨g1, g2⟩ | ⟨g1, g2⟩
          · rw [g2, List.singleton_append, List.drop_succ_cons, List.drop_zero, ih2]
          · have hl := putI_len d
            rw [List.drop_append_of_le_length (by omega), deep_high _ _ _ _ (fun y hy => g2 y (List.mem_of_mem_drop hy)), ih2]
      by_cases h5 : c = 91
      · subst h5
        rw [deep_class, deep_class, skipB_put _ xs (Nat.le_refl _) hx]
        have hm := skipB_mem _ xs (Nat.le_refl _)
        have hl := skipB_len _ xs (Nat.le_refl _)
        rcases skipB_cases _ xs (Nat.le_refl _) with e0 | ⟨l, e0⟩
        · rw [e0]; rfl
        · rw [e0] at hm hl ⊢
          rw [List.length_cons] at hl
          show deepL (putAll l) m n = deepL l m n
          exact deep_put N l (by omega) (fun x hx2 => hx x (hm x (List.mem_cons_of_mem _ hx2))) m n
      by_cases h6 : c = 40
      · subst h6
        rw [deep_open, deep_open, ih]
      by_cases h7 : c = 41
      · subst h7
        rw [deep_shut, deep_shut, ih]
      · rw [deep_other _ _ _ h4 h5 h6 h7, deep_other _ _ _ h4 h5 h6 h7, ih]
    · rw [deep_high _ _ _ _ h2, deep_other _ _ _ (by omega) (by omega) (by omega) (by omega), ih]
theorem put_points : ∀ (N : Nat) (l xs : List Int), l.length ≤ N → (∀ x ∈ l, 0 ≤ x ∧ x < 256) → pointsL l = some xs → l = putAll xs ∧ ∀ x ∈ xs, isI x = true
  | _, [], xs, _, _, h => by
    have h : some [] = some xs := h
    injection h with h
    subst h
    exact ⟨rfl, fun x hx => by cases hx⟩
  | 0, _ :: _, _, hN, _, _ => by simp at hN
  | N + 1, y :: l, xs, hN, hb, h => by
    have hne : y :: l ≠ [] := by simp
    have hbd := getI_bounds hne
    have his := getI_is (y :: l)
    have hbk := get_back hne hb
    rw [pointsL_cons hne] at h
    split at h
    · rename_i hz
      obtain ⟨r, hr, e⟩ := Option.map_eq_some_iff.1 h
      subst e
      have hput := hbk.2 hz
      obtain ⟨i1, i2⟩ := put_points N ((y :: l).drop (getI (y :: l)).2.toNat) r (by rw [List.length_drop]; rw [List.length_cons] at hN ⊢; omega) (fun x hx => hb x (List.mem_of_mem_drop hx)) hr
      refine ⟨?_, fun x hx => ?_⟩
      · show y :: l = putI (getI (y :: l)).1 ++ putAll r
        rw [← i1, hput, List.take_append_drop]
      · rcases List.mem_cons.1 hx with rfl | hx
        · exact his
        · exact i2 x hx
    · cases h
/-! ### Code points and tokens -/
theorem ptL_skip {l r : List Int} {s : List (Int × Int)} {is : Bool} (h : ptL l = some (s, is, r)) : skipB l = skipB r := by
  rcases l with _ | ⟨y, l⟩
  · cases h
  unfold ptL at h
  try dsimp only at h
  split at h
  · cases h
  rename_i h1
  split at h
  · rename_i h2
    subst h2
    rcases l with _ | ⟨e, l⟩
    · cases h
    · obtain ⟨p, hp, h⟩ := Option.map_eq_some_iff.1 h
      injection h with h1 h; injection h with h2 h3
      subst h3
      rw [skipB_esc]; rfl
  · rename_i h2
    injection h with h; injection h with h1' h; injection h with h2' h3
    subst h3
    exact skipB_other (by omega) h2 _
theorem partL_skip {l r : List Int} {s : List (Int × Int)} (h : partL l = some (s, r)) : skipB l = skipB r := by
  unfold partL at h
  rcases hp : ptL l with _ | ⟨s1, is, l1⟩
  · rw [hp] at h; cases h
  rw [hp] at h
  have e1 := ptL_skip hp
  try dsimp only at h
  split at h
  · rename_i l2
    split at h
    · split at h
      · rename_i t l3 h3
        split at h
        · cases h
        · injection h with h; injection h with _ h
          subst h
          rw [e1, skipB_other (by decide) (by decide), ptL_skip h3]
      · cases h
    · injection h with h; injection h with _ h
      subst h
      exact e1
  · injection h with h; injection h with _ h
    subst h
    exact e1
theorem partsL_skip : ∀ (f : Nat) (l r : List Int) (xs s : List (Int × Int)) (more : Bool), partsL f l xs more = some (s, r) → skipB l = 93 :: r
  | 0, _, _, _, _, _, h => by cases h
  | f + 1, l, r, xs, s, more, h => by
    rw [partsL.eq_def] at h
    try dsimp only at h
    split at h
    · rename_i l'
      injection h with h; injection h with _ h
      subst h
      exact skipB_shut _
    · rcases hp : partL l with _ | ⟨s1, l1⟩
      · rw [hp] at h; cases h
      · rw [hp] at h
        rw [partL_skip hp]
        exact partsL_skip f l1 r _ s true h
theorem classL_skip {l r : List Int} {s : List (Int × Int)} (h : classL l = some (s, r)) : skipB l = 93 :: r := by
  unfold classL at h
  split at h
  · obtain ⟨⟨a, b⟩, h1, h⟩ := Option.map_eq_some_iff.1 h
    injection h with _ h
    subst h
    rw [skipB_other (by decide) (by decide)]
    exact partsL_skip _ _ _ _ _ _ h1
  · obtain ⟨⟨a, b⟩, h1, h⟩ := Option.map_eq_some_iff.1 h
    injection h with _ h
    subst h
    exact partsL_skip _ _ _ _ _ _ h1
theorem numL_deep {l r : List Int} {a : Int} (h : numL l = some (a, r)) (m n : Int) : deepL l m n = deepL r m n := by
  have dig : ∀ {x : Int}, isDig x = true → ∀ l : List Int, deepL (x :: l) m n = deepL l m n := fun {x} hx l => by
    unfold isDig at hx
    simp only [Bool.and_eq_true, decide_eq_true_eq] at hx
    exact deep_other _ _ _ (by omega) (by omega) (by omega) (by omega)
  rcases l with _ | ⟨y, _ | ⟨z, l⟩⟩
  · cases h
  · unfold numL at h
    try dsimp only at h
    split at h
    · rename_i h1
      injection h with h; injection h with _ h
      subst h
      exact dig h1 _
    · cases h
  · unfold numL at h
    try dsimp only at h
    split at h
    · rename_i h1
      split at h
      · rename_i h2
        split at h
        · cases h
        · injection h with h; injection h with _ h
          subst h
          rw [dig h1, dig h2]
      · injection h with h; injection h with _ h
        subst h
        exact dig h1 _
    · cases h
theorem braceL_deep {l r : List Int} {t : TokL} (h : braceL l = some (t, r)) (m n : Int) : deepL l m n = deepL r m n := by
  unfold braceL at h
  split at h
  · rename_i a l' h1
    injection h with h; injection h with _ h
    subst h
    rw [numL_deep h1, deep_other _ _ _ (by decide) (by decide) (by decide) (by decide)]
  · rename_i a l' h1
    injection h with h; injection h with _ h
    subst h
    rw [numL_deep h1, deep_other _ _ _ (by decide) (by decide) (by decide) (by decide), deep_other _ _ _ (by decide) (by decide) (by decide) (by decide)]
  · rename_i a l' hno h1
    split at h
    · rename_i b l'' h2
      split at h
      · cases h
      · injection h with h; injection h with _ h
        subst h
        rw [numL_deep h1, deep_other _ _ _ (by decide) (by decide) (by decide) (by decide), numL_deep h2, deep_other _ _ _ (by decide) (by decide) (by decide) (by decide)]
    · cases h
  · cases h
/-- One token: a parenthesis, or nothing that counts. -/
theorem tokL_deep {y : Int} {l r : List Int} {t : TokL} (h : tokL (y :: l) = some (t, r)) :
    (t = tokS 40 ∧ y = 40 ∧ r = l) ∨ (t = tokS 41 ∧ y = 41 ∧ r = l) ∨ ((t.kind ≠ 1 ∨ t.r ≠ 40) ∧ (t.kind ≠ 1 ∨ t.r ≠ 41) ∧ ∀ m n, deepL (y :: l) m n = deepL r m n) := by
  have k2 : ∀ {a b : Int}, (tokN a b).kind ≠ 1 := fun {a b} => by show (2 : Int) ≠ 1; decide
  have k0 : ∀ {s : List (Int × Int)}, (tokC s).kind ≠ 1 := fun {s} => by show (0 : Int) ≠ 1; decide
  unfold tokL at h
  try dsimp only at h
  split at h
  · rename_i h1
    injection h with h; injection h with e1 e2
    subst e1; subst e2
    by_cases h40 : y = 40
    · exact .inl ⟨by rw [h40], h40, rfl⟩
    by_cases h41 : y = 41
    · exact .inr (.inl ⟨by rw [h41], h41, rfl⟩)
    · exact .inr (.inr ⟨.inr h40, .inr h41, fun m n => deep_other _ _ _ (by omega) (by omega) h40 h41⟩)
  rename_i h1
  right; right
  split at h
  · injection h with h; injection h with e1 e2
    subst e1; subst e2
    exact ⟨.inl k2, .inl k2, fun m n => deep_other _ _ _ (by omega) (by omega) (by omega) (by omega)⟩
  split at h
  · injection h with h; injection h with e1 e2
    subst e1; subst e2
    exact ⟨.inl k2, .inl k2, fun m n => deep_other _ _ _ (by omega) (by omega) (by omega) (by omega)⟩
  split at h
  · injection h with h; injection h with e1 e2
    subst e1; subst e2
    exact ⟨.inl k2, .inl k2, fun m n => deep_other _ _ _ (by omega) (by omega) (by omega) (by omega)⟩
  split at h
  · have hk := braceL_kind h
    exact ⟨.inl (by rw [hk]; decide), .inl (by rw [hk]; decide), fun m n => by rw [deep_other _ _ _ (by omega) (by omega) (by omega) (by omega)]; exact braceL_deep h m n⟩
  split at h
  · injection h with h; injection h with e1 e2
    subst e1; subst e2
    exact ⟨.inl k0, .inl k0, fun m n => deep_other _ _ _ (by omega) (by omega) (by omega) (by omega)⟩
  split at h
  · rename_i h7
    subst h7
    obtain ⟨⟨a, b⟩, h8, h⟩ := Option.map_eq_some_iff.1 h
    injection h with e1 e2
    subst e1; subst e2
    exact ⟨.inl k0, .inl k0, fun m n => by rw [deep_class, classL_skip h8]; rfl⟩
  split at h
  · rename_i h8
    subst h8
    rcases l with _ | ⟨e, l⟩
    · cases h
    · obtain ⟨p, hp, h⟩ := Option.map_eq_some_iff.1 h
      injection h with e1 e2
      subst e1; subst e2
      exact ⟨.inl k0, .inl k0, fun m n => by rw [deep_esc]; rfl⟩
  split at h
  · cases h
  · injection h with h; injection h with e1 e2
    subst e1; subst e2
    exact ⟨.inl k0, .inl k0, fun m n => deep_other _ _ _ (by omega) (by omega) (by omega) (by omega)⟩
/-- A text whose parentheses are met: the walk finds how deep its tokens stand. -/
theorem deep_toks : ∀ (N : Nat) (l : List Int) (ts : List TokL), l.length ≤ N → toksL l.length l = some ts → (∀ t ∈ ts, TokOk t) → ∀ (st : List (Wood × Wood)) (a p : Wood) (lo : Bool) (S : Wood), runU ts st a p lo = some S →
    ∀ m : Int, (st.length : Int) ≤ m → deepL l m st.length = max m (depT st.length ts)
  | _, [], ts, _, h, _, st, a, p, lo, S, _, m, hm => by
    have h : some [] = some ts := h
    injection h with h
    subst h
    rw [deep_nil, depT]
    omega
  | 0, _ :: _, _, hN, _, _, _, _, _, _, _, _, _, _ => by simp at hN
  | N + 1, y :: l, ts, hN, h, hok, st, a, p, lo, S, hr, m, hm => by
    rcases ht : tokL (y :: l) with _ | ⟨t, l'⟩
    · rw [toksL_none ht] at h; cases h
    have hlt := tokL_lt ht
    rw [toksL_some ht] at h
    obtain ⟨us, hus, e⟩ := Option.map_eq_some_iff.1 h
    subst e
    rw [List.length_cons] at hN hlt
    have ih := deep_toks N l' us (by omega) hus fun t ht => hok t (List.mem_cons_of_mem _ ht)
    rcases tokL_deep ht with ⟨rfl, rfl, rfl⟩ | ⟨rfl, rfl, rfl⟩ | ⟨k1, k2, hd⟩
    · rw [u_open rfl rfl] at hr
      have i := ih _ _ _ _ _ hr (max m ((st.length : Int) + 1)) (by rw [List.length_cons]; omega)
      rw [List.length_cons] at i
      have hge := depT_ge us (st.length + 1)
      rw [deep_open, d_open _ rfl rfl, show (st.length : Int) + 1 = ((st.length + 1 : Nat) : Int) by omega, show max m (((st.length + 1 : Nat) : Int)) = max m ((st.length : Int) + 1) by omega, i]
      omega
    · rcases st with _ | ⟨⟨a', p'⟩, st⟩
      · rw [u_shut_nil rfl rfl] at hr; cases hr
      rw [u_shut a' p' rfl rfl] at hr
      rw [List.length_cons] at hm
      have i := ih _ _ _ _ _ hr m (by omega)
      rw [deep_shut, d_shut _ rfl rfl, List.length_cons, Nat.add_sub_cancel, show ((st.length + 1 : Nat) : Int) - 1 = (st.length : Int) by omega, i]
      omega
    · rw [hd, d_other _ k1 k2]
      have step : ∃ st' a' p' lo', runU us st' a' p' lo' = some S ∧ st'.length = st.length := by
        rcases hok t (by simp) with h0 | h2 | ⟨h1, h3 | h3 | h3 | h3 | h3⟩
        · rw [u_char h0] at hr; exact ⟨_, _, _, _, hr, rfl⟩
        · rw [u_count h2] at hr
          split at hr
          · exact ⟨_, _, _, _, hr, rfl⟩
          · cases hr
        · rw [u_bar h1 h3] at hr; exact ⟨_, _, _, _, hr, rfl⟩
        · rw [u_begin h1 h3] at hr; exact ⟨_, _, _, _, hr, rfl⟩
        · rw [u_end h1 h3] at hr; exact ⟨_, _, _, _, hr, rfl⟩
        · omega
        · omega
      obtain ⟨st', a', p', lo', hr', hl⟩ := step
      have i := ih _ _ _ _ _ hr' m (by omega)
      rw [hl] at i
      exact i
/-- How deep a pattern's parentheses stand, over its octets. -/
theorem deep_pat {s : ByteArray} {S : Wood} {xs : List Int} {ts : List TokL} (h : PatT s S xs ts) : deepL (nums s) 0 0 = (depT 0 ts : Int) := by
  obtain ⟨e, hi⟩ := put_points _ (nums s) xs (Nat.le_refl _) (nums_byte s) h.pts
  rw [e, deep_put _ xs (Nat.le_refl _) hi]
  have := deep_toks _ xs ts (Nat.le_refl _) h.toks h.ok [] _ _ _ _ h.run 0 (by simp)
  rw [List.length_nil] at this
  rw [show ((0 : Nat) : Int) = 0 from rfl] at this
  rw [this]
  omega
end Go.Proofs.YtegcebgoiocakaaDoor
