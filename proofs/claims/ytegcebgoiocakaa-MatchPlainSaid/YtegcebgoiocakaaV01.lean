/- A pattern of letters alone: its tree, its program, its matches. -/
import Derived.Test.YtegcebgoiocakaaN05
import Derived.Test.YtegcebgoiocakaaN06
import Derived.Test.YtegcebgoiocakaaO02
import Derived.Test.YtegcebgoiocakaaP06
namespace Go.Proofs.Ytegcebgoiocakaa
open Go Go.RowKit
set_option linter.unusedVariables false

def Letter (c : Int) : Prop := c = 97 ∨ c = 98
def Letters (l : List Int) : Prop := ∀ c ∈ l, Letter c
theorem getI_letter {c : Int} {l : List Int} (h : Letter c) : getI (c :: l) = (c, 1) := by
  rcases h with rfl | rfl <;> (simp [getI, lenI]; rw [if_neg (by omega)]; rfl)
theorem szI_letter {c : Int} (h : Letter c) : szI c = 1 := by rcases h with rfl | rfl <;> decide
theorem points_letters : ∀ (l : List Int), Letters l → pointsL l = some l
  | [], _ => rfl
  | c :: l, h => by
    have hc := h c (by simp)
    rw [pointsL_cons (by simp), getI_letter hc]
    simp only
    rw [szI_letter hc, if_pos rfl]
    show (pointsL ((c :: l).drop 1)).map _ = _
    rw [List.drop_one, List.tail_cons, points_letters l fun x hx => h x (by simp [hx])]
    rfl
theorem tok_letter {c : Int} {l : List Int} (h : Letter c) : tokL (c :: l) = some (tokC [(c, c)], l) := by rcases h with rfl | rfl <;> rfl
def letterT (c : Int) : TokL := tokC [(c, c)]
theorem toks_letters : ∀ (f : Nat) (l : List Int), Letters l → l.length ≤ f → toksL f l = some (l.map letterT)
  | _, [], _, _ => by rw [toksL]; rfl
  | 0, _ :: _, _, h => by simp at h
  | f + 1, c :: l, h, hf => by
    rw [toksL, tok_letter (h c (by simp))]
    simp only
    rw [toks_letters f l (fun x hx => h x (by simp [hx])) (by simpa using hf)]
    rfl
def leafs : List Int → Wood
  | [] => .nil
  | c :: l => .cons 1 [(c, c)] 0 0 .nil (leafs l)
theorem leafs_len : ∀ l, (leafs l).len = l.length
  | [] => rfl
  | c :: l => by simp [leafs, Wood.len, leafs_len l]
theorem run_letters : ∀ (l : List Int) (p : Wood) (lo : Bool), runT 0 (l.map letterT) [] .nil p lo = some (finN .nil (p.app (leafs l)))
  | [], p, lo => by rw [List.map_nil, runT, leafs, Wood.app_nil]
  | c :: l, p, lo => by
    rw [List.map_cons, runT.eq_def]
    dsimp only
    rw [if_pos (show (letterT c).kind = 0 from rfl), run_letters l _ true, Wood.app_assoc]
    rfl
theorem parse_letters {s : ByteArray} (h : Letters (nums s)) : parseT s = some (finN .nil (leafs (nums s))) := by
  unfold parseT
  rw [points_letters _ h]
  show treeL (nums s) = _
  unfold treeL
  rw [toks_letters _ _ h (Nat.le_refl _)]
  exact run_letters _ .nil false
/-- The tree. -/
theorem fin_letters : ∀ (l : List Int), l ≠ [] → finN .nil (leafs l) = (if l.length = 1 then leafs l else .cons 4 [] 0 0 (leafs l) .nil)
  | [], h => absurd rfl h
  | [c], _ => rfl
  | c :: d :: l, _ => by
    rw [if_neg (by simp)]
    rfl
/-! ### Its program -/
def plainI : Nat → List Int → List InstL
  | _, [] => []
  | q, c :: l => ⟨1, [(c, c)], (q : Int) + 1, 0⟩ :: plainI (q + 1) l
theorem plainI_len : ∀ (l : List Int) (q : Nat), (plainI q l).length = l.length
  | [], _ => rfl
  | c :: l, q => by simp [plainI, plainI_len l]
theorem plainI_app : ∀ (a b : List Int) (q : Nat), plainI q (a ++ b) = plainI q a ++ plainI (q + a.length) b
  | [], b, q => rfl
  | c :: a, b, q => by
    rw [List.cons_append, plainI, plainI_app a b (q + 1), plainI, List.cons_append, List.length_cons, show q + 1 + a.length = q + (a.length + 1) by omega]
theorem plainI_at : ∀ (l : List Int) (q i : Nat), (plainI q l)[i]? = (l[i]?).map fun c => ⟨1, [(c, c)], ((q + i : Nat) : Int) + 1, 0⟩
  | [], _, _ => by simp [plainI]
  | c :: l, q, 0 => by simp [plainI]
  | c :: l, q, i + 1 => by
    rw [plainI, List.getElem?_cons_succ, plainI_at l (q + 1) i, List.getElem?_cons_succ]
    congr 2
    funext x
    rw [show q + 1 + i = q + (i + 1) by omega]
def plainP (l : List Int) : List InstL := plainI 0 l ++ [⟨0, [], 0, 0⟩]
theorem row_plain (l : List Int) (q : Nat) : ∀ j, j ≤ l.length → rowCode (fun i => charF [(l.getD i 0, l.getD i 0)]) j q = plainI q (l.take j)
  | 0, _ => rfl
  | j + 1, h => by
    obtain ⟨c, hc⟩ : ∃ c, l[j]? = some c := ⟨_, List.getElem?_eq_getElem (by omega)⟩
    rw [rowCode, row_plain l q j (by omega), List.take_add_one, hc, plainI_app, plainI_len]
    have : l.getD j 0 = c := by rw [List.getD, hc]; rfl
    rw [this]
    rfl
/-! ### Its matches -/
/-- The letters stand there. -/
def hitAt (cs rs : List Int) (k : Nat) : Bool := (rs.drop k).take cs.length == cs
theorem hit_iff {cs rs : List Int} {k : Nat} : hitAt cs rs k = true ↔ ∀ i, i < cs.length → rs[k + i]? = cs[i]? := by
  unfold hitAt
  rw [beq_iff_eq]
  constructor
  · intro h i hi
    have := congrArg (fun l => l[i]?) h
    simp only [List.getElem?_take_of_lt hi, List.getElem?_drop] at this
    exact this
  · intro h
    apply List.ext_getElem?
    intro i
    rcases Nat.lt_or_ge i cs.length with hi | hi
    · rw [List.getElem?_take_of_lt hi, List.getElem?_drop]; exact h i hi
    · rw [List.getElem?_eq_none (by simp; omega), List.getElem?_eq_none hi]
theorem plainP_at {cs : List Int} {i : Nat} {v : InstL} (h : (plainP cs)[i]? = some v) : (∃ c, cs[i]? = some c ∧ v = ⟨1, [(c, c)], (i : Int) + 1, 0⟩) ∨ (i = cs.length ∧ v = ⟨0, [], 0, 0⟩) := by
  unfold plainP at h
  rcases Nat.lt_or_ge i cs.length with hi | hi
  · rw [List.getElem?_append_left (by rw [plainI_len]; exact hi), plainI_at] at h
    obtain ⟨c, hc, e⟩ := Option.map_eq_some_iff.1 h
    exact .inl ⟨c, hc, by rw [← e, Nat.zero_add]⟩
  · rw [List.getElem?_append_right (by rw [plainI_len]; exact hi), plainI_len] at h
    have h0 : i - cs.length = 0 := by
      rcases Nat.eq_zero_or_pos (i - cs.length) with h0 | h0
      · exact h0
      · rw [List.getElem?_eq_none (by simp; omega)] at h; cases h
    rw [h0] at h
    injection h with h
    exact .inr ⟨by omega, h.symm⟩
theorem hasL_letter {c r : Int} (hc : Letter c) : hasL [(c, c)] r = true ↔ r = c := by
  rw [hasL_iff]
  constructor
  · rintro ⟨p, hp, h1, h2, _⟩
    rw [List.mem_singleton] at hp
    subst hp
    simp at h1 h2
    omega
  · rintro rfl
    refine ⟨(r, r), by simp, Int.le_refl _, Int.le_refl _, ?_⟩
    rcases hc with rfl | rfl <;> decide
theorem plainP_lt {cs : List Int} {i : Nat} {c : Int} (h : cs[i]? = some c) : (plainP cs)[i]? = some ⟨1, [(c, c)], (i : Int) + 1, 0⟩ := by
  have hi := (List.getElem?_eq_some_iff.1 h).1
  unfold plainP
  rw [List.getElem?_append_left (by rw [plainI_len]; exact hi), plainI_at, h, Nat.zero_add]
  rfl
theorem plainP_end (cs : List Int) : (plainP cs)[cs.length]? = some ⟨0, [], 0, 0⟩ := by
  unfold plainP
  rw [List.getElem?_append_right (by rw [plainI_len]; exact Nat.le_refl _), plainI_len, Nat.sub_self]
  rfl
theorem rch_plain {cs rs : List Int} {a j b : Nat} (hcs : Letters cs) (h : Rch (plainP cs) rs 0 a j b) : j ≤ cs.length ∧ b = a + j ∧ ∀ i, i < j → rs[a + i]? = cs[i]? := by
  induction h with
  | refl => exact ⟨Nat.zero_le _, rfl, fun i hi => absurd hi (Nat.not_lt_zero _)⟩
  | eps _ e ih =>
    obtain ⟨v, hv, hk, ho⟩ := e
    rcases plainP_at hv with ⟨c, _, rfl⟩ | ⟨_, rfl⟩
    · simp [openA] at ho
    · simp [outs] at hk
  | @chr j k b r _ hr e ih =>
    obtain ⟨h1, h2, h3⟩ := ih
    obtain ⟨v, hv, hk, ho, hs⟩ := e
    rcases plainP_at hv with ⟨c, hc, rfl⟩ | ⟨_, rfl⟩
    · have hj := (List.getElem?_eq_some_iff.1 hc).1
      have hrc := (hasL_letter (hcs c (List.mem_of_getElem? hc))).1 hs
      have hk2 : k = j + 1 := by
        have : k ∈ [((j : Int) + 1).toNat] := hk
        rw [List.mem_singleton] at this
        omega
      subst hk2
      refine ⟨hj, by omega, fun i hi => ?_⟩
      rcases Nat.eq_or_lt_of_le (Nat.le_of_lt_succ hi) with rfl | hi
      · rw [← h2, hr, hrc, hc]
      · exact h3 i hi
    · exact absurd ho (by decide)
theorem rch_go {cs rs : List Int} {a : Nat} (hcs : Letters cs) : ∀ j, j ≤ cs.length → (∀ i, i < j → rs[a + i]? = cs[i]?) → Rch (plainP cs) rs 0 a j (a + j)
  | 0, _, _ => .refl
  | j + 1, hj, h => by
    obtain ⟨c, hc⟩ : ∃ c, cs[j]? = some c := ⟨_, List.getElem?_eq_getElem (by omega)⟩
    have ih := rch_go hcs j (by omega) fun i hi => h i (by omega)
    exact .chr ih ((h j (by omega)).trans hc) ⟨_, plainP_lt hc, by show j + 1 ∈ [((j : Int) + 1).toNat]; rw [List.mem_singleton]; omega, rfl, (hasL_letter (hcs c (List.mem_of_getElem? hc))).2 rfl⟩
theorem long_hit {cs rs : List Int} {a : Nat} (hcs : Letters cs) (h : hitAt cs rs a = true) : Long (plainP cs) rs a (some (a + cs.length)) := by
  have h1 := hit_iff.1 h
  refine ⟨⟨cs.length, rch_go hcs _ (Nat.le_refl _) h1, _, plainP_end cs, rfl⟩, ?_⟩
  rintro b' ⟨i, hi, _⟩
  have := rch_plain hcs hi
  omega
theorem long_no {cs rs : List Int} {a : Nat} (hcs : Letters cs) (h : hitAt cs rs a = false) : Long (plainP cs) rs a none := by
  rintro b' ⟨i, hi, v, hv, he⟩
  obtain ⟨h1, h2, h3⟩ := rch_plain hcs hi
  rcases plainP_at hv with ⟨c, _, rfl⟩ | ⟨h4, _⟩
  · have he : (1 : Int) = 0 := he
    exact absurd he (by decide)
  · subst h4
    rw [hit_iff.2 h3] at h
    cases h
/-! ### Letters as a text -/
theorem goT_letters {T : List Int} (h : Letters T) : ∀ (f a : Nat), T.length = a + f → (goT f T a).map Prod.fst = T.drop a ∧ ∀ k, k < f → ((goT f T a).map Prod.snd)[k]? = some (a + k + 1)
  | 0, a, hl => ⟨by rw [goT, List.drop_eq_nil_of_le (by omega)]; rfl, fun k hk => absurd hk (Nat.not_lt_zero _)⟩
  | f + 1, a, hl => by
    have ha : a < T.length := by omega
    obtain ⟨c, hc⟩ : ∃ c, T[a]? = some c := ⟨_, List.getElem?_eq_getElem ha⟩
    have hd : T.drop a = c :: T.drop (a + 1) := by
      rw [List.drop_eq_getElem_cons ha]
      congr 1
      exact (List.getElem?_eq_some_iff.1 hc).2
    have hg := getI_letter (l := T.drop (a + 1)) (h c (List.mem_of_getElem? hc))
    have h1 : cpT T a = c := by unfold cpT; rw [hd, hg]
    have h2 : szT T a = 1 := by unfold szT; rw [hd, hg]; rfl
    obtain ⟨i1, i2⟩ := goT_letters h f (a + 1) (by omega)
    rw [goT, if_pos ha, h1, h2]
    refine ⟨by rw [List.map_cons, i1, hd], fun k hk => ?_⟩
    rcases k with _ | k
    · rfl
    · rw [List.map_cons, List.getElem?_cons_succ, i2 k (by omega)]
      congr 1
      omega
theorem rs_letters {T : List Int} (h : Letters T) : rsT T = T := by
  unfold rsT
  rw [(goT_letters h T.length 0 (by omega)).1, List.drop_zero]
theorem atF_letters {T : List Int} (h : Letters T) {k : Nat} (hk : k ≤ T.length) : atF T k = k := by
  unfold atF atT
  rcases k with _ | k
  · rfl
  · rw [List.getD, List.getElem?_cons_succ, (goT_letters h T.length 0 (by omega)).2 k (by omega)]
    show 0 + k + 1 = k + 1
    omega
end Go.Proofs.Ytegcebgoiocakaa
/- A pattern of letters alone: its program, as it is made. -/
namespace Go.Proofs.Ytegcebgoiocakaa
open Go Go.RowKit
set_option linter.unusedVariables false
set_option maxRecDepth 20000

def plainFs (cs : List Int) (i : Nat) : Nat → List InstL := charF [(cs.getD i 0, cs.getD i 0)]
theorem leafs_nth : ∀ (cs : List Int) (j : Nat), j < cs.length → (leafs cs).nth j = leaf 1 [(cs.getD j 0, cs.getD j 0)]
  | [], j, h => by simp at h
  | c :: cs, 0, _ => rfl
  | c :: cs, j + 1, h => by
    have := leafs_nth cs j (by simpa using h)
    rw [leafs, Wood.nth, this]
    rfl
theorem cnt_leafs : ∀ cs, cntW (leafs cs) = cs.length
  | [] => rfl
  | c :: cs => by
    rw [leafs, cntW, cnt_leafs cs, List.length_cons, show opCnt 1 0 0 Wood.nil.len (cntW .nil) = 1 from rfl]
    omega
theorem cnt_plain {cs : List Int} (h : cs ≠ []) : cntW (finN .nil (leafs cs)) = cs.length := by
  rw [fin_letters cs h]
  split
  · exact cnt_leafs cs
  · rw [cntW, cnt_leafs]; rfl
theorem plain_tree {B g : Nat} {w0 : World} (hBw : B ≤ w0.heap.size) {x : NV} {cs : List Int} (h0 : cs ≠ []) (h20 : cs.length ≤ 20) (h : NodesIn (fun b => b < B) w0 [x] (finN .nil (leafs cs))) : TreeX B g w0 x.val (rowCode (plainFs cs) cs.length) := by
  have h1 := h.one
  rw [fin_letters cs h0] at h1
  by_cases hl : cs.length = 1
  · rw [if_pos hl] at h1
    obtain ⟨c, rfl⟩ := List.length_eq_one_iff.1 hl
    have := kid_charX (g := g) hBw (s := [(c, c)]) (by simp) h1
    have e : rowCode (plainFs [c]) [c].length = charF [(c, c)] := by
      funext q
      rfl
    rw [e]
    exact this
  · rw [if_neg hl] at h1
    obtain ⟨op, s', mn', mx', k, A, D, ns, cs', nk, ck, e, hx, hr, hk⟩ := h1
    injection e with e1 e2 e3 e4 e5 _
    subst e1; subst e2; subst e3; subst e4; subst e5
    rw [hx]
    have hnk : nk = cs.length := by rw [← hk.1, leafs_len]
    subst hnk
    exact tree_catX hBw (row_addsX hk (by omega) hBw (plainFs cs) fun j hj v hv => kid_charX hBw (by simp) (by rw [leafs_nth cs j hj] at hv; exact hv))
theorem plain_codes (cs : List Int) : rowCode (plainFs cs) cs.length 0 = plainI 0 cs := by
  have := row_plain cs 0 cs.length (Nat.le_refl _)
  rw [List.take_length] at this
  exact this
theorem plain_at {F : Nat → Prop} {w1 : World} {x : NV} {cs : List Int} (h0 : cs ≠ []) (h20 : cs.length ≤ 20) (h : NodesIn F w1 [x] (finN .nil (leafs cs))) (ho : TreeOk (finN .nil (leafs cs))) (hl : LenOk (finN .nil (leafs cs))) : ∀ w2, Below w1.heap.size w1 w2 →
    (Calls Try.prog 23 #[.agg #[.int .i64 x.op, .slice x.A x.ns x.cs, .int .i64 x.mn, .int .i64 x.mx, .slice x.D x.nk x.ck]] w2 fun e w' => e = .returned (.int .i64 (cs.length : Int)) ∧ Below w2.heap.size w2 w') ∧
    (Calls Try.prog 24 #[.agg #[.int .i64 x.op, .slice x.A x.ns x.cs, .int .i64 x.mn, .int .i64 x.mx, .slice x.D x.nk x.ck]] w2 fun e w' => ∃ P pc l, e = .returned (.tuple #[.slice P (cs.length + 1) pc, .int .i64 0]) ∧ InsF (fun b => w2.heap.size ≤ b) w' P (cs.length + 1) l ∧ codes l = plainP cs ∧ Below w2.heap.size w2 w') := fun w2 hb => by
  have h2 : NodesIn (fun b => b < w2.heap.size) w2 [x] (finN .nil (leafs cs)) := h.move hb.size fun b _ hlt => ⟨Nat.lt_of_lt_of_le hlt hb.size, hb.block b hlt⟩
  have hc := cnt_plain h0
  have hr : rowLen (finN .nil (leafs cs)) = (cs.length : Int) := by
    have h3 := (alk_row _ ho hl).1
    rw [hc] at h3
    exact h3 (by have : bigL = 1099511627776 := rfl; rw [this]; omega)
  refine ⟨?_, ?_⟩
  · have := rlen_any _ _ (Nat.le_refl _) _ w2 _ h2.one hl
    rwa [hr] at this
  · have hL := len_anyP _ _ (Nat.le_refl _) _ h2.one ho hl
    rw [hc, show min cs.length bigN = cs.length from Nat.min_eq_left (Nat.le_trans h20 (by decide))] at hL
    have := compile_X (f := rowCode (plainFs cs) cs.length) (by rw [plain_codes, plainI_len]) (by omega) (fun v hv => by
      rw [plain_codes] at hv
      obtain ⟨i, hi⟩ := List.getElem?_of_mem hv
      rw [plainI_at] at hi
      obtain ⟨c, _, e⟩ := Option.map_eq_some_iff.1 hi
      rw [← e]
      show (1 : Nat) ≤ 2000000
      omega) hL fun g => plain_tree (Nat.le_refl _) h0 h20 h2
    rw [plain_codes] at this
    exact this
set_option maxHeartbeats 4000000 in
theorem made_plain (s : ByteArray) (w : World) (hs : Letters (nums s)) (h0 : 0 < s.size) (h20 : s.size ≤ 20) : Calls Try.prog 9 #[.string s] w fun e w' => ∃ P pc l, e = .returned (.slice P (s.size + 1) pc) ∧ InsF (fun b => w.heap.size ≤ b) w' P (s.size + 1) l ∧ codes l = plainP (nums s) ∧ Below w.heap.size w w' := by
  have hnl := nums_length s
  have hp := parse_letters hs
  obtain ⟨ho, hl, _⟩ := parseT_q (by omega) hp
  have hne : nums s ≠ [] := fun e => by rw [e] at hnl; simp at hnl; omega
  have HP := Lib.hid (show Calls Try.prog 22 #[.string s] w fun e w' => ∃ x : NV, e = .returned (.tuple #[x.val, .int .i64 0]) ∧ NodesIn (fun _ => True) w' [x] (finN .nil (leafs (nums s))) ∧ Below w.heap.size w w' from by
    refine (rparse_any s w).mono fun e w' hv => ?_
    obtain ⟨hb, ⟨h1, _⟩ | ⟨_, h2, _⟩ | ⟨x, n, h1, h2, he, hN⟩⟩ := hv
    · omega
    · rw [hp] at h2; cases h2
    · rw [hp] at h2
      injection h2 with h2
      subst h2
      exact ⟨x, he, hN, hb⟩)
  have HA := Lib.hid fun (w1 : World) (x : NV) (h : NodesIn (fun _ => True) w1 [x] (finN .nil (leafs (nums s)))) => plain_at hne (by omega) h ho hl
  rw [hnl] at HA
  have h150 : (s.size : Int) ≤ 20 := by omega
  clear hnl hp ho hl hne hs h0 h20
  go_enter Try.func9, Try.ntmps9
  go_wp2_with (first
    | (go_at_call 22; (with_reducible refine HP.out.mono ?_); rintro e w1 ⟨x, rfl, hN, hb⟩; have H1 := Lib.hid hb; have HC := Lib.hid (HA.out w1 x hN); have HC1 := Lib.hid (HC.out (w1.alloc (.cells #[.int .i64 x.op, .slice x.A x.ns x.cs, .int .i64 x.mn, .int .i64 x.mx, .slice x.D x.nk x.ck] 52)) ((Below.refl _ _).alloc (Nat.le_refl _) _)).1; clear hN hb; simp only [NV.val])
    | (go_at_call 23; (with_reducible refine HC1.out.mono ?_); rintro e w2 ⟨rfl, hb⟩; have H2 := Lib.hid hb; have hbx := Lib.hid (show w2.heap[w1.heap.size]? = some (.cells #[.int .i64 x.op, .slice x.A x.ns x.cs, .int .i64 x.mn, .int .i64 x.mx, .slice x.D x.nk x.ck] 52 (0, 0)) from (hb.block _ (by simp)).trans (heap_alloc_new w1 _)); obtain ⟨y0, y1, y2, y3, y4, yf⟩ := box_facts hbx.out; have HB2 := Lib.hid (((Below.refl w1.heap.size w1).alloc (Nat.le_refl _) (.cells #[.int .i64 x.op, .slice x.A x.ns x.cs, .int .i64 x.mn, .int .i64 x.mx, .slice x.D x.nk x.ck] 52)).trans (hb.mono (by simp))); have HC2 := Lib.hid (HC.out w2 HB2.out).2; clear hb)
    | (go_at_call 24; (with_reducible refine HC2.out.mono ?_); rintro e w3 ⟨P, pc, l, rfl, hI, hcl, hb⟩; have H3 := Lib.hid (And.intro hI (And.intro hcl hb)); clear hI hcl hb))
  go_ret
  exact ⟨P, pc, l, rfl, H3.out.1.mono fun b hF _ => Nat.le_trans (Nat.le_trans H1.out.size HB2.out.size) hF, H3.out.2.1, (H1.out.trans (HB2.out.mono H1.out.size)).trans (H3.out.2.2.mono (Nat.le_trans H1.out.size HB2.out.size))⟩
end Go.Proofs.Ytegcebgoiocakaa
/- A row of truth values that came in. -/
namespace Go.Proofs.Ytegcebgoiocakaa
open Go Go.RowKit Go.ChangeShapes Go.WideShapes Go.ChangeAt
set_option linter.unusedVariables false
set_option maxRecDepth 20000

/-- A row of truth values. -/
def RowBo (w : World) (A : Option Addr) (n : Nat) (l : List Bool) : Prop :=
  l.length = n ∧ (0 < n → ∃ b o, A = some ⟨b, o, none⟩ ∧ b < w.heap.size ∧ ∀ j v, l[j]? = some v → w.cell? ⟨b, o + j, none⟩ = some (.bool v))
theorem RowBo.below {w w' : World} {A : Option Addr} {n : Nat} {l : List Bool} (h : RowBo w A n l) (hb : Below w.heap.size w w') : RowBo w' A n l := by
  refine ⟨h.1, fun hn => ?_⟩
  obtain ⟨b, o, hA, hlt, hc⟩ := h.2 hn
  exact ⟨b, o, hA, Nat.lt_of_lt_of_le hlt hb.size, fun j v hv => (hb.cell (p := ⟨b, o + j, none⟩) hlt).trans (hc j v hv)⟩
theorem bool_cells : Try.prog.cellsOf 4 = 1 := by kernel_rfl
section
variable {H : Type} {enc : TypeId × Value → H} {W : World} {base : Nat} {held : Bool}
theorem bools_of {a : Option Addr} {len cap fuel : Nat} {x : DataW H × List MemPlace} (hf : DataW.trod enc Try.prog W base (fun _ => true) held fuel 47 [.slice a len cap] = some x) : ∃ xs, RowBo W a len xs := by
  rcases Go.Deep.open_slice Try.underlying47 hf with ⟨hcs, _⟩ | ⟨ad, l, c, m, n, D, Pl, hcs, _, hl, hm, hmm, _, hel⟩
  · simp at hcs
    obtain ⟨rfl, rfl, rfl⟩ := hcs
    exact ⟨[], rfl, fun h => absurd h (by omega)⟩
  · simp at hcs
    obtain ⟨rfl, rfl, rfl⟩ := hcs
    simp only [if_true] at hmm
    subst hmm
    rw [bool_cells] at hel
    have each : ∀ i, ∃ y : Bool, i < m → W.cell? (ad.add i) = some (.bool y) := by
      intro i
      by_cases hi : i < m
      · obtain ⟨cs', hc, ht⟩ := hel i hi
        obtain ⟨_, hcl, hat⟩ := World.cells?_some hc
        obtain ⟨b, e, _⟩ := DataW.trod_bool Try.underlying4 ht
        subst e
        have a0 := hat 0 (by simp)
        have hz : ∀ q : Addr, q.add 0 = q := fun q => by simp [Addr.add]
        rw [hz, Nat.mul_one] at a0
        exact ⟨b, fun _ => by rw [a0]; rfl⟩
      · exact ⟨false, fun h => absurd h hi⟩
    obtain ⟨f, hfn⟩ := Classical.axiomOfChoice each
    refine ⟨(List.range len).map f, by simp, fun hn => ?_⟩
    obtain ⟨b, off, spot⟩ := ad
    have h0 := hfn 0 (by omega)
    have hspot : spot = none := by simpa [Addr.add] using World.cell?_spot h0
    subst hspot
    refine ⟨b, off, rfl, World.block_lt_of_cell? W (⟨b, off, none⟩ : Addr) (by simpa [Addr.add] using h0), fun j v hv => ?_⟩
    have hj : j < len := by have := (List.getElem?_eq_some_iff.1 hv).1; simpa using this
    have hvf : v = f j := by
      rw [List.getElem?_map, List.getElem?_range hj] at hv
      injection hv with hv
      exact hv.symm
    subst hvf
    have hadd : ∀ (o i : Nat), (⟨b, o, none⟩ : Addr).add i = ⟨b, o + i, none⟩ := fun o i => by unfold Addr.add; split <;> simp_all
    have g := hfn j (by omega)
    rwa [hadd] at g
end
end Go.Proofs.Ytegcebgoiocakaa
/- Letters out of truth values. -/
namespace Go.Proofs.Ytegcebgoiocakaa
open Go Go.RowKit
set_option linter.unusedVariables false
set_option maxRecDepth 20000

def bLet (b : Bool) : Int := if b = true then 97 else 98
theorem letters_of (l : List Bool) : Letters (l.map bLet) := fun c hc => by
  obtain ⟨b, _, rfl⟩ := List.mem_map.1 hc
  cases b
  · exact .inr rfl
  · exact .inl rfl
theorem nums_app11 (a b : ByteArray) : nums (a ++ b) = nums a ++ nums b := by simp [nums]
set_option maxHeartbeats 4000000 in
theorem word_any (A : Option Addr) (n c : Nat) (ls : List Bool) (w : World) (h : RowBo w A n ls) (hn : n ≤ 1000) :
    Calls Try.prog 21 #[.slice A n c] w fun e w' => ∃ S : ByteArray, e = .returned (.string S) ∧ nums S = ls.map bLet ∧ w = w' := by
  have HA := Lib.hid h
  clear h
  go_enter Try.func21, Try.ntmps21
  go_wp2_with fail
  go_loopw [3, 4] (fun v3 v4 wr => ∃ (i : Nat) (S : ByteArray), v3 = .string S ∧ v4 = .int .i64 (i : Int) ∧ i ≤ n ∧ Hid (nums S = (ls.take i).map bLet ∧ wr = w)) (fun _ v4 _ => n - (intOf v4).toNat)
  case atStart => exact ⟨0, _, rfl, rfl, Nat.zero_le _, Lib.hid ⟨rfl, rfl⟩⟩
  case round =>
    obtain ⟨i, S, rfl, rfl, hi, H⟩ := hrel
    obtain ⟨hS, hww⟩ := H.out
    subst hww
    have hsi : S.size = i := by rw [← nums_length, hS, List.length_map, List.length_take, HA.out.1]; omega
    by_cases hlt : i < n
    · obtain ⟨b, o, rfl, _, hc⟩ := HA.out.2 (by omega)
      obtain ⟨v, hv⟩ : ∃ v, ls[i]? = some v := ⟨_, List.getElem?_eq_getElem (by rw [HA.out.1]; exact hlt)⟩
      have cv := hc i v hv
      have hI : (i : Int) < (n : Int) := by omega
      have hI0 : (0 : Int) ≤ (i : Int) := by omega
      have hov : ¬ 9223372036854775807 < S.size + 1 := by omega
      have htk : (ls.take (i + 1)).map bLet = (ls.take i).map bLet ++ [bLet v] := by rw [List.take_add_one, hv]; simp
      have HT := Lib.hid (And.intro hS htk)
      clear hS hc hv htk hsi
      cases v
      · go_wp2
        exact ⟨⟨i + 1, S ++ ⟨#[98]⟩, rfl, rfl, by omega, Lib.hid ⟨by rw [nums_app11, HT.out.1, HT.out.2]; rfl, trivial⟩⟩, by simp [intOf]; omega⟩
      · go_wp2
        exact ⟨⟨i + 1, S ++ ⟨#[97]⟩, rfl, rfl, by omega, Lib.hid ⟨by rw [nums_app11, HT.out.1, HT.out.2]; rfl, trivial⟩⟩, by simp [intOf]; omega⟩
    · obtain rfl : i = n := by omega
      have HT := Lib.hid (show nums S = ls.map bLet by rw [hS, List.take_of_length_le (by rw [HA.out.1]; exact Nat.le_refl _)])
      clear hS hsi
      go_wp2
      go_ret
      exact ⟨S, rfl, HT.out, rfl⟩
end Go.Proofs.Ytegcebgoiocakaa
/- MatchPlain: a pattern of letters alone matches where they stand, one behind the other. -/
namespace Go.Proofs.Ytegcebgoiocakaa
open Go Go.RowKit
set_option linter.unusedVariables false
set_option maxRecDepth 20000

theorem plain_right (cs : List Int) : (plainP cs).all (okB (cs.length + 1)) = true := by
  rw [List.all_eq_true]
  intro v hv
  obtain ⟨i, hi⟩ := List.getElem?_of_mem hv
  rcases plainP_at hi with ⟨c, hc, rfl⟩ | ⟨_, rfl⟩
  · have := (List.getElem?_eq_some_iff.1 hc).1
    have hx : inB (cs.length + 1) ((i : Int) + 1) = true := by unfold inB; simp; omega
    simp [okB, hx]
  · simp [okB]
theorem nums_inj {a b : ByteArray} (h : nums a = nums b) : a = b := by rw [← strOfNums_nums a, h, strOfNums_nums]
theorem nums_cut11 (T : ByteArray) (a n : Nat) : nums (T.extract a (a + n)) = ((nums T).drop a).take n := by
  unfold nums
  rw [ByteArray.data_extract, Array.toList_extract]
  simp [List.extract, List.map_take, List.map_drop]
theorem cut_is (S T : ByteArray) (a n : Nat) (hn : S.size = n) : T.extract a (a + n) = S ↔ hitAt (nums S) (nums T) a = true := by
  unfold hitAt
  rw [beq_iff_eq, nums_length, hn, ← nums_cut11]
  exact ⟨fun h => by rw [h], fun h => nums_inj h⟩
set_option maxHeartbeats 8000000 in
theorem plain11 (A D : Option Addr) (n c m d : Nat) (ls ts : List Bool) (w : World) (hl : RowBo w A n ls) (ht : RowBo w D m ts) :
    Calls Try.prog 7 #[.slice A n c, .slice D m d] w fun e w' => e = .returned (.bool true) ∧ Below w.heap.size w w' := by
  have HA := Lib.hid (awake11_any w)
  have HA2 := Lib.hid fun w => awake11_any w
  have HL := Lib.hid hl
  have HD := Lib.hid ht
  clear hl ht
  have hdone : ∀ w1, Below w.heap.size w w1 → ∀ w2, Below w1.heap.size w1 w2 → Below w.heap.size w w2 := fun w1 h1 w2 h2 => h1.trans (h2.mono h1.size)
  have HDone := Lib.hid hdone
  clear hdone
  by_cases hn0 : n = 0
  · subst hn0
    go_enter Try.func7, Try.ntmps7
    go_wp2_with (first
      | (go_at_call 8; (with_reducible refine HA.out.mono ?_); rintro e w1 ⟨rfl, hb⟩; have HB := Lib.hid hb; clear hb)
      | (go_at_call 8; (with_reducible refine (HA2.out _).mono ?_); rintro e w2 ⟨rfl, hb⟩; have HB2 := Lib.hid hb; clear hb))
    go_ret
    exact ⟨rfl, HDone.out _ HB.out _ HB2.out⟩
  have hn1 : ((n : Int) == 0) = false := by simp; omega
  have hn2 : ¬ (n : Int) = 0 := by omega
  by_cases hn20 : 20 < n
  · have h1 : (20 : Int) < (n : Int) := by omega
    clear hn0 hn20
    go_enter Try.func7, Try.ntmps7
    go_wp2_with (first
      | (go_at_call 8; (with_reducible refine HA.out.mono ?_); rintro e w1 ⟨rfl, hb⟩; have HB := Lib.hid hb; clear hb)
      | (go_at_call 8; (with_reducible refine (HA2.out _).mono ?_); rintro e w2 ⟨rfl, hb⟩; have HB2 := Lib.hid hb; clear hb))
    go_ret
    exact ⟨rfl, HDone.out _ HB.out _ HB2.out⟩
  have h1 : ¬ (20 : Int) < (n : Int) := by omega
  by_cases hm60 : 60 < m
  · have h2 : (60 : Int) < (m : Int) := by omega
    clear hn0 hn20 hm60
    go_enter Try.func7, Try.ntmps7
    go_wp2_with (first
      | (go_at_call 8; (with_reducible refine HA.out.mono ?_); rintro e w1 ⟨rfl, hb⟩; have HB := Lib.hid hb; clear hb)
      | (go_at_call 8; (with_reducible refine (HA2.out _).mono ?_); rintro e w2 ⟨rfl, hb⟩; have HB2 := Lib.hid hb; clear hb))
    go_ret
    exact ⟨rfl, HDone.out _ HB.out _ HB2.out⟩
  have h2 : ¬ (60 : Int) < (m : Int) := by omega
  have HN := Lib.hid (show 0 < n ∧ n ≤ 20 ∧ m ≤ 60 by omega)
  have W1 := Lib.hid fun (w' : World) (hb : Below w.heap.size w w') => word_any A n c ls w' (HL.out.below hb) (by omega)
  have W2 := Lib.hid fun (w' : World) (hb : Below w.heap.size w w') => word_any D m d ts w' (HD.out.below hb) (by omega)
  clear hn0 hn20 hm60
  go_enter Try.func7, Try.ntmps7
  go_wp2_with (first
    | (go_at_call 8; (with_reducible refine HA.out.mono ?_); rintro e w1 ⟨rfl, hb⟩; have HB := Lib.hid hb; clear hb)
    | (go_at_call 21; (with_reducible refine (W1.out _ HB.out).mono ?_); rintro e w2 ⟨S, rfl, hS, rfl⟩; have HS := Lib.hid hS; clear hS)
    | (go_at_call 21; (with_reducible refine (W2.out _ HB.out).mono ?_); rintro e w3 ⟨T, rfl, hT, rfl⟩; have HT := Lib.hid hT; clear hT))
  have hSn : S.size = n := by rw [← nums_length, HS.out, List.length_map]; exact HL.out.1
  have hTm : T.size = m := by rw [← nums_length, HT.out, List.length_map]; exact HD.out.1
  have hSL : Letters (nums S) := by rw [HS.out]; exact letters_of ls
  have hTL : Letters (nums T) := by rw [HT.out]; exact letters_of ts
  have hrs : rsT (nums T) = nums T := rs_letters hTL
  have HF := Lib.hid (And.intro hSn (And.intro hTm (And.intro hSL (And.intro hTL hrs))))
  clear hSn hTm hSL hTL hrs
  go_loopw [8, 9] (fun v8 v9 wr => ∃ (P : Option Addr) (q pc at_ : Nat), v8 = .slice P q pc ∧ v9 = .int .i64 (at_ : Int) ∧ at_ ≤ T.size ∧ q ≤ at_ ∧ Hid (∃ k b hs, RInv (plainP (nums S)) (nums T) k b hs ∧ k ≤ at_ ∧ (∀ j, k ≤ j → j < at_ → Long (plainP (nums S)) (rsT (nums T)) j none) ∧ hs.length = q ∧ wr.ownsRow w1.heap.size 35 2 (.slice P q pc) q (cellsG (hs.map (hitI (nums T)))) ∧ Below w1.heap.size w1 wr)) (fun _ v9 _ => T.size + 1 - (intOf v9).toNat)
  case atStart => exact ⟨none, 0, 0, 0, rfl, rfl, Nat.zero_le _, Nat.le_refl _, Lib.hid ⟨0, none, [], RInv.begin, Nat.le_refl _, (fun j _ h => absurd h (Nat.not_lt_zero _)), rfl, nilP _ _ _, Below.refl _ _⟩⟩
  case round =>
    obtain ⟨P, q, pc, at_, rfl, rfl, hat, hq, H⟩ := hrel
    have hSb : (S.size : Int) ≤ 20 := by have := HF.out.1; have := HN.out; omega
    have hTb : (T.size : Int) ≤ 60 := by have := HF.out.2.1; have := HN.out; omega
    have hS0 : (0 : Int) < (S.size : Int) := by have := HF.out.1; have := HN.out; omega
    by_cases hle : at_ + S.size ≤ T.size
    · have h3 : (at_ : Int) + (S.size : Int) ≤ (T.size : Int) := by omega
      have h4 : (0 : Int) ≤ (at_ : Int) := by omega
      have h5 : (0 : Int) ≤ (at_ : Int) + (S.size : Int) := by omega
      have h6 : (at_ : Int) ≤ (at_ : Int) + (S.size : Int) := by omega
      by_cases hh : hitAt (nums S) (nums T) at_ = true
      · have hX : T.extract at_ (at_ + S.size) = S := (cut_is S T at_ S.size rfl).2 hh
        have HH := Lib.hid hh
        obtain ⟨k, b, hs, hR, hk, hno, hlen, ho, hb⟩ := H.out
        have hbs := hb.size
        obtain ⟨P', pc', w4, happ, ho4, hb4, hk4⟩ := pushP 40 35 Try.underlying40 info_hit (w := wr.alloc (.cells #[.int .i64 (at_ : Int), .int .i64 ((at_ : Int) + (S.size : Int))] 35)) (B := w1.heap.size) (row_keep ho fun i hi _ => Below.heap_alloc wr _ i hi) [((at_ : Int), (at_ : Int) + (S.size : Int))] (d := wr.heap.size) (hp_new rfl) (by omega) (by simp) (by simp; omega)
        have hb5 : Below w1.heap.size w1 w4 := (hb.alloc hb.size _).trans hb4
        have HAPP := Lib.hid happ
        have HNX := Lib.hid (And.intro hR (And.intro hk (And.intro hno (And.intro hlen (And.intro ho4 hb5)))))
        clear happ ho4 hb4 hk4 hb5 hbs hR hk hno hlen ho hb hh
        go_wp2_with (at_builtin; refine wpList_append_run rfl _ _ 40 rfl rfl _ _ _ _ rfl rfl HAPP.out ?_)
        obtain ⟨hR, hk, hno, hlen, ho4, hb5⟩ := HNX.out
        obtain ⟨hSn, hTm, hSL, hTL, hrs⟩ := HF.out
        have hnl := nums_length T
        have hsl := nums_length S
        have hL := long_hit hSL HH.out
        rw [hsl] at hL
        have hP := hR.push (f := at_) (e := at_ + S.size) hk (by rw [hrs]; omega) (by omega) (by rw [hrs]; omega) (by rw [hrs]; exact hL) hno (fun h => by have := h.1; omega)
        refine ⟨⟨P', q + 1, pc', at_ + S.size, rfl, rfl, hle, by omega, Lib.hid ⟨at_ + S.size, some (at_ + S.size), hs ++ [(at_, at_ + S.size)], hP, Nat.le_refl _, (fun j h1 h2 => by omega), by simp [hlen], ?_, hb5⟩⟩, by simp [intOf]; omega⟩
        rw [List.map_append, List.map_singleton, show hitI (nums T) (at_, at_ + S.size) = ((at_ : Int), (at_ : Int) + (S.size : Int)) by
          unfold hitI
          rw [atF_letters hTL (by omega), atF_letters hTL (by omega)]
          rfl]
        exact ho4
      · have hX : ¬ T.extract at_ (at_ + S.size) = S := fun h => hh ((cut_is S T at_ S.size rfl).1 h)
        have hX3 : ((T.extract at_ (at_ + S.size)).toList == S.toList) = false := by
          rw [beq_eq_false_iff_ne, Lib.toList_data, Lib.toList_data]
          intro h
          apply hX
          have : (T.extract at_ (at_ + S.size)).data = S.data := Array.toList_inj.1 h
          cases hE : T.extract at_ (at_ + S.size)
          cases S
          rw [hE] at this
          simp at this
          rw [this]
        have HH := Lib.hid hh
        clear hh hX
        go_wp2
        obtain ⟨k, b, hs, hR, hk, hno, hlen, ho, hb⟩ := H.out
        obtain ⟨hSn, hTm, hSL, hTL, hrs⟩ := HF.out
        exact ⟨⟨P, q, pc, at_ + 1, rfl, rfl, by omega, by omega, Lib.hid ⟨k, b, hs, hR, by omega, (fun j h1 h2 => by
          rcases Nat.eq_or_lt_of_le (Nat.le_of_lt_succ h2) with rfl | h2
          · rw [hrs]; exact long_no hSL (by simpa using HH.out)
          · exact hno j h1 h2), hlen, ho, hb⟩⟩, by simp [intOf]; omega⟩
    · have h3 : ¬ (at_ : Int) + (S.size : Int) ≤ (T.size : Int) := by omega
      obtain ⟨k, b, hs, hR, hk, hno, hlen, ho, hb⟩ := H.out
      obtain ⟨hSn, hTm, hSL, hTL, hrs⟩ := HF.out
      have hnl := nums_length T
      have hall : AllR (plainP (nums S)) (rsT (nums T)) 0 none hs := hR.over fun j h1 h2 => by
        rcases Nat.lt_or_ge j at_ with h4 | h4
        · exact hno j h1 h4
        · rw [hrs]
          refine long_no hSL ?_
          rcases hb2 : hitAt (nums S) (nums T) j with _ | _
          · rfl
          · have h5 := hit_iff.1 hb2 (S.size - 1) (by rw [nums_length]; omega)
            rw [List.getElem?_eq_none (by omega), List.getElem?_eq_getElem (by rw [nums_length]; omega)] at h5
            cases h5
      have HM := Lib.hid fun (w' : World) => made_plain S w' hSL (by omega) (by omega)
      have HAll := Lib.hid (And.intro hall (And.intro (rowH_own ho) (And.intro hb hlen)))
      clear hR hk hno ho hb hall hlen hrs hTL hSL hnl
      go_wp2_with fail
      refine (HM.out _).mono ?_
      rintro e w5 ⟨PP, pp, l, rfl, hI, hcl, hb1⟩
      rw [hSn]
      rw [hSn] at hI
      have HB5 := Lib.hid (HAll.out.2.2.1.trans (hb1.mono HAll.out.2.2.1.size))
      have R5 := HAll.out.2.1.below hb1
      have hsl := nums_length S
      have hr : rightB (n + 1) l = true := by
        rw [rightB_codes, hcl]
        have h6 := plain_right (nums S)
        rw [hsl, hSn] at h6
        rw [h6]
        simp
      have HRR := Lib.hid (rright_any PP (n + 1) pp l w5 hI.insAt (by have := HN.out; omega))
      rw [hr] at HRR
      have hIF : ∀ w', Below w5.heap.size w5 w' → InsF (fun b => b < w5.heap.size) w' PP (n + 1) l := fun w' hb => (hI.mono (F' := fun b => b < w5.heap.size) (fun b _ h => h)).belowB hb
      have C1 := Lib.hid fun (w' : World) (hb : Below w5.heap.size w5 w') => all_match PP (n + 1) pp l T w' (hIF w' hb) hr (by have := HN.out; omega) (by omega)
      have HC := Lib.hid (show (l.map fun v => v.i) = plainP (nums S) from hcl)
      have HR5 := Lib.hid R5
      have HTS := Lib.hid (show T.size ≤ 1000 by omega)
      clear hI hcl hb1 R5 hsl hr hIF
      go_wp2_with (first
        | (go_at_call 10; (with_reducible refine HRR.out.mono ?_); rintro e w6 ⟨rfl, hb1⟩; have HB6 := Lib.hid hb1; have R6 := Lib.hid (HR5.out.below hb1); clear hb1)
        | (go_at_call 19; (with_reducible refine (C1.out _ HB6.out).mono ?_); rintro e w7 ⟨P1, q1, p1, hs1, rfl, ha1, ho1, hb1⟩; have HB7 := Lib.hid (HB6.out.trans (hb1.mono HB6.out.size)); rw [HC.out] at ha1; obtain rfl := HAll.out.1.uniq ha1; have r1 := rowH_own ho1; have r2 := R6.out.below hb1; obtain rfl : q1 = q := r1.1.symm.trans r2.1; have HS7 := Lib.hid (hsame_any _ P1 P q1 p1 pc w7 r1 r2 (by have h3 := ha1.len1 HTS.out; have h4 := r1.1; rw [List.length_map] at h4; omega)); clear ha1 ho1 hb1 r1 r2)
        | (go_at_call 18; (with_reducible refine HS7.out.mono ?_); rintro e w8 ⟨rfl, qq, rfl⟩))
      go_ret
      exact ⟨rfl, below_drewN (HB.out.trans ((HB5.out.trans (HB7.out.mono HB5.out.size)).mono HB.out.size)) qq⟩
end Go.Proofs.Ytegcebgoiocakaa
