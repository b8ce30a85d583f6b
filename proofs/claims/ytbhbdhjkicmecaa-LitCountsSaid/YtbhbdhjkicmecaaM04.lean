/- A string's octets as numbers; []byte(s). -/
import Derived.Test.YtbhbdhjkicmecaaM01
import Derived.Test.YtbhbdhjkicmecaaM02
import Derived.Test.YtbhbdhjkicmecaaM03
import Derived.Laws.IdiomStrings
import Derived.Lib.Hide
import Derived.Laws.BytesArg
import Derived.IntWalk
import Derived.Handy
import Derived.BigQuiet
namespace Go.Proofs.Ytbhbdhjkicmecaa
open Go Go.RowKit

/-- A string's octets as numbers. -/
def nums (s : ByteArray) : List Int := s.data.toList.map fun c => (c.toNat : Int)
theorem nums_length (s : ByteArray) : (nums s).length = s.size := by simp [nums]
theorem nums_byte (s : ByteArray) : ∀ c ∈ nums s, 0 ≤ c ∧ c < 256 := by
  intro c hc
  obtain ⟨b, _, rfl⟩ := List.mem_map.1 hc
  have := b.toNat_lt
  omega
theorem nums_get (s : ByteArray) (k : Nat) (h : k < s.size) (h' : k < (nums s).length) : (nums s)[k] = (s[k].toNat : Int) := by
  simp [nums]; rfl
theorem strOfNums_nums (s : ByteArray) : strOfNums (nums s) = s := by
  apply ByteArray.ext
  apply Array.toList_inj.1
  rw [strOfNums_data]
  simp [nums, Function.comp_def]
theorem nums_strOfNums (l : List Int) (h : ∀ c ∈ l, 0 ≤ c ∧ c < 256) : nums (strOfNums l) = l := by
  unfold nums
  rw [strOfNums_data, List.map_map]
  conv => rhs; rw [← List.map_id l]
  apply List.map_congr_left
  intro c hc
  have := h c hc
  simp
  omega

theorem idx_at (s : ByteArray) (k : Nat) (h : k < s.size) (w : World) : (Instr.index 9 (.string s) (.int .i64 (k : Int))).run Try.prog w = .ok (.int .u8 ((nums s).getD k 0)) w := by
  rw [run_index_string w 9 s .i64 k Try.underlying9, dif_pos ⟨by omega, by omega⟩]
  have h' : k < (nums s).length := by rw [nums_length]; exact h
  rw [show (nums s).getD k 0 = (s[k].toNat : Int) by rw [← nums_get s k h h']; simp [List.getD, h']]
  simp
theorem nums_extract_to (s : ByteArray) (p : Nat) : nums (s.extract p s.size) = (nums s).drop p := by
  unfold nums
  rw [← List.map_drop]
  congr 1
  rw [ByteArray.data_extract, Array.toList_extract]
  show (s.data.toList.drop p).take (s.size - p) = _
  exact List.take_of_length_le (by rw [List.length_drop, Array.length_toList]; exact Nat.le_refl _)
/-- []byte(s). -/
theorem bytes_run (s : ByteArray) (w : World) (hs : s.size ≤ maxLen) : ∃ A c w', (convert 9 25 (.string s)).run Try.prog w = .ok (.slice A s.size c) w' ∧ RowI .u8 w' A s.size (nums s) ∧ s.size ≤ c ∧ c ≤ maxLen ∧ Below w.heap.size w w' := by
  refine ⟨_, _, _, run_bytes_of_string w _ _ _ s Try.underlying9 Try.underlying25 Try.underlying5, ⟨nums_length s, fun h0 => ⟨_, _, rfl, ?_, fun j hj => ?_⟩⟩, ?_, ?_, ?_⟩
  · show w.heap.size < (w.heap.push _).size
    rw [Array.size_push]; omega
  · rw [Nat.zero_add]
    refine (World.cell?_alloc_mark w.drew _ _ _ j).trans ?_
    unfold bytesRow
    rw [Array.getElem?_append_left (by rw [Array.size_map]; exact hj), Array.getElem?_map]
    have hj' : j < s.data.size := hj
    have hn : j < (nums s).length := by rw [nums_length]; exact hj
    rw [Array.getElem?_eq_getElem hj']
    have e := nums_get s j hj hn
    rw [List.getD, List.getElem?_eq_getElem hn, Option.getD_some, e]
    rfl
  · exact grownCap_ge w s.size 0 _
  · exact grownCap_le_maxLen w s.size 0 _ hs
  · exact ((Below.refl _ _).drew).alloc (Nat.le_refl _) _
end Go.Proofs.Ytbhbdhjkicmecaa
/- Words on memory: what hangs on no type, out of stage 1's texts. (Stage 8's seat had KitR8's text in this one's place.) -/
/- Ranges as values: rows of them, and what they read as. -/
namespace Go.Proofs.Ytbhbdhjkicmecaa
open Go Go.RowKit
set_option linter.unusedVariables false
set_option maxRecDepth 20000

def cellsG (s : List (Int × Int)) : List Value := s.flatMap fun p => [.int .i64 p.1, .int .i64 p.2]
theorem cellsG_length (s : List (Int × Int)) : (cellsG s).length = s.length * 2 := by
  induction s with
  | nil => rfl
  | cons p s ih =>
    show ([_, _] ++ cellsG s).length = _
    rw [List.length_append, ih]
    simp
    omega
theorem cellsG_append (a b : List (Int × Int)) : cellsG (a ++ b) = cellsG a ++ cellsG b := by simp [cellsG]
theorem cellsG_at : ∀ (s : List (Int × Int)) (j : Nat), j < s.length → (cellsG s)[j * 2]? = some (.int .i64 (s.getD j (0, 0)).1) ∧ (cellsG s)[j * 2 + 1]? = some (.int .i64 (s.getD j (0, 0)).2)
  | [], j, h => by simp at h
  | p :: s, 0, _ => ⟨rfl, rfl⟩
  | p :: s, j + 1, h => by
    have ih := cellsG_at s j (by simpa using h)
    have e1 : (j + 1) * 2 = j * 2 + 2 := by omega
    show ([.int .i64 p.1, .int .i64 p.2] ++ cellsG s)[(j + 1) * 2]? = _ ∧ ([.int .i64 p.1, .int .i64 p.2] ++ cellsG s)[(j + 1) * 2 + 1]? = _
    rw [List.getElem?_append_right (by simp; omega), List.getElem?_append_right (by simp; omega), e1]
    simpa using ih

/-- The slice of ranges at A with n elements reads as s. -/
def RowG (w : World) (A : Option Addr) (n : Nat) (s : List (Int × Int)) : Prop :=
  s.length = n ∧ (0 < n → ∃ b o, A = some ⟨b, o, none⟩ ∧ b < w.heap.size ∧ ∀ j, j < n →
    w.cell? ⟨b, o + j * 2, none⟩ = some (.int .i64 (s.getD j (0, 0)).1) ∧ w.cell? ⟨b, o + j * 2 + 1, none⟩ = some (.int .i64 (s.getD j (0, 0)).2))
section
variable {w w' : World} {A : Option Addr} {n : Nat} {s : List (Int × Int)}
theorem RowG.nil_ : RowG w A 0 [] := ⟨rfl, fun h => absurd h (by omega)⟩
theorem RowG.drewN (h : RowG w A n s) (q : Nat) : RowG (w.drewN q) A n s := h
theorem RowG.below (h : RowG w A n s) {B : Nat} (hb : Below B w w') (hB : w.heap.size ≤ B) : RowG w' A n s := by
  refine ⟨h.1, fun hn => ?_⟩
  obtain ⟨b, o, hA, hlt, hc⟩ := h.2 hn
  refine ⟨b, o, hA, Nat.lt_of_lt_of_le hlt hb.size, fun j hj => ?_⟩
  rw [hb.cell (p := ⟨b, o + j * 2, none⟩) (show b < B by omega), hb.cell (p := ⟨b, o + j * 2 + 1, none⟩) (show b < B by omega)]
  exact hc j hj
end
theorem rowG_of_own {w : World} {B : Nat} {V : Value} {s : List (Int × Int)} {n : Nat} (h : w.ownsRow B 58 2 V n (cellsG s)) (hl : s.length = n) : ∃ A c, V = .slice A n c ∧ RowG w A n s ∧ n ≤ c ∧ c ≤ maxLen := by
  rcases h.2 with ⟨rfl, rfl⟩ | ⟨g, cap, cur, rfl, hB, hg, hnc, hcm, hcs, ht⟩
  · exact ⟨none, 0, rfl, ⟨hl, fun h => absurd h (by omega)⟩, Nat.le_refl _, Nat.zero_le _⟩
  · refine ⟨_, cap, rfl, ⟨hl, fun hn => ⟨g, 0, rfl, (Array.getElem?_eq_some_iff.1 hg).1, fun j hj => ?_⟩⟩, hnc, hcm⟩
    obtain ⟨e1, e2⟩ := cellsG_at s j (by omega)
    refine ⟨?_, ?_⟩
    · rw [cell_of_row w g (0 + j * 2) cur 58 (0, 0) hg, ← e1, ← ht, List.getElem?_take_of_lt (by omega), Array.getElem?_toList, Nat.zero_add]
    · rw [cell_of_row w g (0 + j * 2 + 1) cur 58 (0, 0) hg, ← e2, ← ht, List.getElem?_take_of_lt (by omega), Array.getElem?_toList, Nat.zero_add]

theorem info_rng : (Try.prog.info? 58).map (fun i => (i.zero, i.size, i.bytes)) = some (some (.agg #[.int .i64 0, .int .i64 0]), 2, 16) := by kernel_rfl
theorem rng_cells : Try.prog.cellsOf 58 = 2 := by kernel_rfl

set_option maxHeartbeats 1000000 in
/-- The document's Has. -/
theorem rhas_any (s : List (Int × Int)) (A : Option Addr) (n c : Nat) (r : Int) (W : World) (hr : RowG W A n s) (hn : n ≤ 1000000) :
    Calls Try.prog 48 #[.slice A n c, .int .i64 r] W fun e w' => e = .returned (.bool (hasL s r)) ∧ W = w' := by
  have HR := Lib.hid hr; clear hr
  go_enter Try.func48, Try.ntmps48
  go_wp2
  go_loopw [5] (fun i wr => ∃ k : Nat, k ≤ n ∧ i = .int .i64 k ∧ Hid (hasL (s.take k) r = false) ∧ wr = W) (fun i _ => n - (intOf i).toNat)
  case atStart => exact ⟨0, Nat.zero_le _, rfl, Lib.hid rfl, rfl⟩
  case round =>
    obtain ⟨k, hk, rfl, HF, rfl⟩ := hrel
    by_cases hlt : k < n
    · obtain ⟨b, o, rfl, _, hc⟩ := HR.out.2 (by omega)
      obtain ⟨c0, c1⟩ := hc k hlt
      have hl := HR.out.1
      have htk : s.take (k + 1) = s.take k ++ [s.getD k (0, 0)] := by
        rw [List.take_succ_eq_append_getElem (by omega)]
        simp [List.getD, List.getElem?_eq_getElem (show k < s.length by omega)]
      have hmem : s.getD k (0, 0) ∈ s := by
        rw [List.getD, List.getElem?_eq_getElem (by omega)]
        exact List.getElem_mem _
      obtain ⟨p, hp⟩ : ∃ p, p = s.getD k (0, 0) := ⟨_, rfl⟩
      rw [← hp] at c0 c1 htk hmem
      clear hc hp hl
      obtain ⟨x, y⟩ := p
      have HTK := Lib.hid htk
      have HMEM := Lib.hid hmem
      clear htk hmem
      by_cases hin : x ≤ r ∧ r ≤ y ∧ 0 ≤ r ∧ r ≤ 1114111
      · obtain ⟨h1, h2, h3, h4⟩ := hin
        have hh : hasL s r = true := (hasL_iff s r).2 ⟨(x, y), HMEM.out, h1, h2, h3, h4⟩
        have HFF := Lib.hid hh
        clear hh
        go_wp2
        go_ret
        rw [HFF.out]
        exact ⟨rfl, rfl⟩
      · have HN : Hid (hasL (s.take (k + 1)) r = false) := Lib.hid (by
          rw [HTK.out, hasL_append, HF.out, hasL_cons, hasL_nil, Bool.false_or, Bool.or_false]
          exact decide_eq_false hin)
        by_cases h1 : x ≤ r
        · by_cases h2 : r ≤ y
          · by_cases h3 : 0 ≤ r
            · have h4 : ¬ r ≤ 1114111 := fun q => hin ⟨h1, h2, h3, q⟩
              clear hin
              go_wp2
              exact ⟨⟨k + 1, by omega, by go_num, HN, trivial⟩, by simp [intOf]; omega⟩
            · clear hin
              go_wp2
              exact ⟨⟨k + 1, by omega, by go_num, HN, trivial⟩, by simp [intOf]; omega⟩
          · clear hin
            go_wp2
            exact ⟨⟨k + 1, by omega, by go_num, HN, trivial⟩, by simp [intOf]; omega⟩
        · clear hin
          go_wp2
          exact ⟨⟨k + 1, by omega, by go_num, HN, trivial⟩, by simp [intOf]; omega⟩
    · have hkn : k = n := by omega
      subst hkn
      have hf : hasL s r = false := by
        have := HF.out
        rwa [List.take_of_length_le (by have := HR.out.1; omega)] at this
      have HFF := Lib.hid hf
      clear hf
      go_wp2
      go_ret
      rw [HFF.out]
      exact ⟨rfl, rfl⟩
end Go.Proofs.Ytbhbdhjkicmecaa
/- Rows of values that the call owns: what hangs on no type. -/
namespace Go.Proofs.Ytbhbdhjkicmecaa
open Go Go.RowKit
set_option linter.unusedVariables false

section
variable {w w' : World} {B : Nat} {e : TypeId} {v : Value} {n : Nat} {xs : List Value}
theorem own_kept (h : w.ownsRow B e 1 v n xs) (hb : Below w.heap.size w w') : w'.ownsRow B e 1 v n xs := by
  refine ⟨h.1, ?_⟩
  rcases h.2 with h2 | ⟨g, cap, cur, hv, hbg, hg, hr⟩
  · exact .inl h2
  · exact .inr ⟨g, cap, cur, hv, hbg, (hb.block g (Array.getElem?_eq_some_iff.1 hg).1).trans hg, hr⟩
theorem own_mono1 (h : w.ownsRow B e 1 v n xs) {B' : Nat} (hb : B' ≤ B) : w.ownsRow B' e 1 v n xs := by
  refine ⟨h.1, ?_⟩
  rcases h.2 with h2 | ⟨g, cap, cur, hv, hbg, hg⟩
  · exact .inl h2
  · exact .inr ⟨g, cap, cur, hv, Nat.le_trans hb hbg, hg⟩
theorem own_alloc (h : w.ownsRow B e 1 v n xs) (o : Obj) : (w.alloc o).ownsRow B e 1 v n xs :=
  own_kept h ((Below.refl _ _).alloc (Nat.le_refl _) o)
/-- What the call owns stays where a row of another type grows. -/
theorem own_other {B' : Nat} {e' : TypeId} {V : Value} {m : Nat} {ys : List Value} (h : w.ownsRow B e 1 v n xs) (h' : w.ownsRow B' e' 1 V m ys) (hne : e ≠ e') (hg : w.grownBy w' V.ownBlock) : w'.ownsRow B e 1 v n xs := by
  refine ⟨h.1, ?_⟩
  rcases h.2 with h2 | ⟨g, cap, cur, hv, hbg, hw, hr⟩
  · exact .inl h2
  · refine .inr ⟨g, cap, cur, hv, hbg, ?_, hr⟩
    have hlt := (Array.getElem?_eq_some_iff.1 hw).1
    obtain ⟨_, _, _, _, hk⟩ := hg
    rw [hk g hlt ?_]
    · exact hw
    · intro hc
      rcases h'.2 with ⟨rfl, _⟩ | ⟨g', cap', cur', rfl, _, hw', _⟩
      · cases hc
      · simp [Value.ownBlock] at hc
        subst hc
        rw [hw] at hw'
        injection hw' with hw'
        injection hw' with _ ht _
        exact hne ht
/-- Its cells. -/
theorem own_cells (h : w.ownsRow B e 1 v n xs) :
    ∃ A c, v = .slice A n c ∧ n ≤ c ∧ c ≤ maxLen ∧ (A = none → n = 0 ∧ c = 0) ∧ (∀ a, A = some a → ∃ g, a = ⟨g, 0, none⟩ ∧ B ≤ g ∧ g < w.heap.size ∧ (∀ j u, xs[j]? = some u → w.cell? ⟨g, j, none⟩ = some u) ∧ ∀ j, w.frozen? ⟨g, j, none⟩ = false) := by
  rcases h.2 with ⟨rfl, rfl⟩ | ⟨g, cap, cur, rfl, hB, hg, hnc, hcm, hcs, ht⟩
  · exact ⟨none, 0, rfl, Nat.le_refl _, Nat.zero_le _, fun _ => ⟨rfl, rfl⟩, fun a ha => by cases ha⟩
  · refine ⟨_, cap, rfl, hnc, hcm, (fun hA => by cases hA), fun a ha => ?_⟩
    injection ha with ha
    refine ⟨g, ha.symm, hB, (Array.getElem?_eq_some_iff.1 hg).1, fun j u hj => ?_, fun j => by simp [World.frozen?, hg]⟩
    have hjn : j < n := by
      have := h.1
      rcases Nat.lt_or_ge j xs.length with h1 | h1
      · omega
      · rw [List.getElem?_eq_none h1] at hj; cases hj
    rw [cell_of_row w g j cur e (0, 0) hg]
    have h1 : (cur.toList.take (n * 1))[j]? = xs[j]? := by rw [ht]
    rw [List.getElem?_take_of_lt (by omega), Array.getElem?_toList] at h1
    rw [h1, hj]
end

set_option maxRecDepth 20000 in
/-- append of one value to a row that the call owns: the value lies in a block of its own, just made. -/
theorem push_run (t e : TypeId) (z : Value) (bytes : Nat) (ht : Try.prog.underlying t = some (.slice e)) (hinfo : (Try.prog.info? e).map (fun i => (i.zero, i.size, i.bytes)) = some (some z, 1, bytes)) (hzs : z.cells.size = 1)
    (w : World) (base : Nat) (v : Value) (n : Nat) (xs : List Value) (hown : w.ownsRow base e 1 v n xs) (x : Value) (hx : x.oneCell' = true) (hsz : (n + 1) * bytes ≤ 140737488355328) (h63 : n + 1 ≤ maxLen) (hbase : base ≤ w.heap.size) :
    ∃ v' w', (Builtin.append_ #[t, t] t #[v, .slice (some ⟨w.heap.size, 0, none⟩) 1 1]).run Try.prog (w.alloc (.cells #[x] e)) = .ok v' w' ∧ w'.ownsRow base e 1 v' (n + 1) (xs ++ [x]) ∧ (w.alloc (.cells #[x] e)).grownBy w' v.ownBlock := by
  obtain ⟨i0, hi, hz0, hz1, hz2⟩ := info_parts hinfo
  obtain ⟨v', w', h1, h2, h3, _⟩ := run_append_own (P := Try.prog) (w.alloc (.cells #[x] e)) base t t e i0 z 1 bytes ht hi hz0 hz1 hz2 hzs (by decide) v n xs (own_alloc hown _) ⟨w.heap.size, 0, none⟩ 1 1 [x] rfl
    (by
      intro j u hu
      rcases j with _ | j
      · injection hu with hu
        subst hu
        rw [show (⟨w.heap.size, 0, none⟩ : Addr).add 0 = ⟨w.heap.size, 0, none⟩ by rfl, cell_of_row (w.alloc (.cells #[x] e)) w.heap.size 0 #[x] e (0, 0) (heap_alloc_new w _)]
        rfl
      · simp at hu) (by simpa using hx) h63 hsz (by simp; omega)
  exact ⟨v', w', h1, h2, h3⟩

section
variable {w w' : World} {B : Nat} {e : TypeId} {s : Nat} {v : Value} {n : Nat} {xs : List Value}
/-- A row stays where its block stays. -/
theorem row_keep (h : w.ownsRow B e s v n xs) (hk : ∀ k, k < w.heap.size → v.ownBlock = some k → w'.heap[k]? = w.heap[k]?) : w'.ownsRow B e s v n xs := by
  refine ⟨h.1, ?_⟩
  rcases h.2 with h2 | ⟨g, cap, cur, rfl, hbg, hg, hr⟩
  · exact .inl h2
  · exact .inr ⟨g, cap, cur, rfl, hbg, (hk g (Array.getElem?_eq_some_iff.1 hg).1 rfl).trans hg, hr⟩
theorem row_base (h : w.ownsRow B e s v n xs) {B' : Nat} (hB : ∀ k, v.ownBlock = some k → B' ≤ k) : w.ownsRow B' e s v n xs := by
  refine ⟨h.1, ?_⟩
  rcases h.2 with h2 | ⟨g, cap, cur, rfl, hbg, hg⟩
  · exact .inl h2
  · exact .inr ⟨g, cap, cur, rfl, hB g rfl, hg⟩
theorem row_lt (h : w.ownsRow B e s v n xs) {k : Nat} (hk : v.ownBlock = some k) : B ≤ k ∧ k < w.heap.size := by
  rcases h.2 with ⟨rfl, _⟩ | ⟨g, cap, cur, rfl, hbg, hg, _⟩
  · cases hk
  · injection hk with hk
    subst hk
    exact ⟨hbg, (Array.getElem?_eq_some_iff.1 hg).1⟩
/-- Rows of different types lie in different blocks. -/
theorem row_ne_blk (h : w.ownsRow B e s v n xs) {g : Nat} {cs : Array Value} {t : TypeId} {f : Nat × Nat} (hg : w.heap[g]? = some (.cells cs t f)) (hne : e ≠ t) : v.ownBlock ≠ some g := by
  rcases h.2 with ⟨rfl, _⟩ | ⟨b, cap, cur, rfl, hb, hr, _⟩
  · simp [Value.ownBlock]
  · simp [Value.ownBlock]
    rintro rfl
    rw [hr] at hg
    injection hg with hg
    injection hg with _ ht _
    exact hne ht
theorem row_ne_row {B' : Nat} {e' : TypeId} {s' : Nat} {v' : Value} {n' : Nat} {xs' : List Value} (h : w.ownsRow B e s v n xs) (h' : w.ownsRow B' e' s' v' n' xs') (hne : e ≠ e') {k : Nat} (hk : v'.ownBlock = some k) : v.ownBlock ≠ some k := by
  rcases h'.2 with ⟨rfl, _⟩ | ⟨b, cap, cur, rfl, hb, hr, _⟩
  · cases hk
  · injection hk with hk
    subst hk
    exact row_ne_blk h hr hne
end


theorem then_ {a b c : World} (h : Below a.heap.size a b) (k : Below b.heap.size b c) : Below a.heap.size a c := h.trans (Below.mono k h.size)
end Go.Proofs.Ytbhbdhjkicmecaa
