/- Texts. -/
import Derived.Test.YtaapbmdojkjphaaGreatZ01
import Derived.Laws.IdiomStrings
import Derived.Lib.Hide
import Derived.Laws.BytesArg
import Derived.IntWalk
import Derived.Handy
import Derived.Lib.SliceRun
import Derived.Shelf.Strings.Search1
import Derived.Lib.Walk
import Derived.BigQuiet
import Derived.Test.YtaapbmdojkjphaaGreatRows
import Derived.WalkKit
namespace Go.Proofs.YtaapbmdojkjphaaGreat
open Go Go.RowKit
def nums (s : ByteArray) : List Int := s.data.toList.map fun c => (c.toNat : Int)
theorem nums_length (s : ByteArray) : (nums s).length = s.size := by simp [nums]
theorem nums_byte (s : ByteArray) : ∀ c ∈ nums s, 0 ≤ c ∧ c < 256 := by
  intro c hc
  obtain ⟨b, _, rfl⟩ := List.mem_map.1 hc
  have := b.toNat_lt
  omega
theorem nums_get (s : ByteArray) (k : Nat) (h : k < s.size) (h' : k < (nums s).length) : (nums s)[k] = (s[k].toNat : Int) := by
  simp [nums]; rfl
theorem strOfNums_nums (s : ByteArray) : strOfNums (nums s) = s := by
  apply ByteArray.ext
  apply Array.toList_inj.1
  rw [strOfNums_data]
  simp [nums, Function.comp_def]
theorem nums_strOfNums (l : List Int) (h : ∀ c ∈ l, 0 ≤ c ∧ c < 256) : nums (strOfNums l) = l := by
  unfold nums
  rw [strOfNums_data, List.map_map]
  conv => rhs; rw [← List.map_id l]
  apply List.map_congr_left
  intro c hc
  have := h c hc
  simp
  omega
theorem idx_at (s : ByteArray) (k : Nat) (h : k < s.size) (w : World) : (Instr.index 9 (.string s) (.int .i64 (k : Int))).run Tryz.prog w = .ok (.int .u8 ((nums s).getD k 0)) w := by
  rw [run_index_string w 9 s .i64 k Tryz.underlying9, dif_pos ⟨by omega, by omega⟩]
  have h' : k < (nums s).length := by rw [nums_length]; exact h
  rw [show (nums s).getD k 0 = (s[k].toNat : Int) by rw [← nums_get s k h h']; simp [List.getD, h']]
  simp
theorem bytes_run (s : ByteArray) (w : World) (hs : s.size ≤ maxLen) : ∃ A c w', (convert 9 41 (.string s)).run Tryz.prog w = .ok (.slice A s.size c) w' ∧ RowI .u8 w' A s.size (nums s) ∧ s.size ≤ c ∧ c ≤ maxLen ∧ Below w.heap.size w w' := by
  refine ⟨_, _, _, run_bytes_of_string w _ _ _ s Tryz.underlying9 Tryz.underlying41 Tryz.underlying5, ⟨nums_length s, fun h0 => ⟨_, _, rfl, ?_, fun j hj => ?_⟩⟩, ?_, ?_, ?_⟩
  · show w.heap.size < (w.heap.push _).size
    rw [Array.size_push]; omega
  · rw [Nat.zero_add]
    refine (World.cell?_alloc_mark w.drew _ _ _ j).trans ?_
    unfold bytesRow
    rw [Array.getElem?_append_left (by rw [Array.size_map]; exact hj), Array.getElem?_map]
    have hj' : j < s.data.size := hj
    have hn : j < (nums s).length := by rw [nums_length]; exact hj
    rw [Array.getElem?_eq_getElem hj']
    have e := nums_get s j hj hn
    rw [List.getD, List.getElem?_eq_getElem hn, Option.getD_some, e]
    rfl
  · exact grownCap_ge w s.size 0 _
  · exact grownCap_le_maxLen w s.size 0 _ hs
  · exact ((Below.refl _ _).drew).alloc (Nat.le_refl _) _
end Go.Proofs.YtaapbmdojkjphaaGreat
namespace Go.Proofs.YtaapbmdojkjphaaGreat
open Go Go.RowKit
set_option linter.unusedVariables false
section
variable {w w' : World} {B : Nat} {e : TypeId} {v : Value} {n : Nat} {xs : List Value}
theorem own_kept (h : w.ownsRow B e 1 v n xs) (hb : Below w.heap.size w w') : w'.ownsRow B e 1 v n xs := by
  refine ⟨h.1, ?_⟩
  rcases h.2 with h2 | ⟨g, cap, cur, hv, hbg, hg, hr⟩
  · exact .inl h2
  · exact .inr ⟨g, cap, cur, hv, hbg, (hb.block g (Array.getElem?_eq_some_iff.1 hg).1).trans hg, hr⟩
theorem own_alloc (h : w.ownsRow B e 1 v n xs) (o : Obj) : (w.alloc o).ownsRow B e 1 v n xs :=
  own_kept h ((Below.refl _ _).alloc (Nat.le_refl _) o)
end
set_option maxRecDepth 20000 in
theorem push_run (t e : TypeId) (z : Value) (bytes : Nat) (ht : Tryz.prog.underlying t = some (.slice e)) (hinfo : (Tryz.prog.info? e).map (fun i => (i.zero, i.size, i.bytes)) = some (some z, 1, bytes)) (hzs : z.cells.size = 1)
    (w : World) (base : Nat) (v : Value) (n : Nat) (xs : List Value) (hown : w.ownsRow base e 1 v n xs) (x : Value) (hx : x.oneCell' = true) (hsz : (n + 1) * bytes ≤ 140737488355328) (h63 : n + 1 ≤ maxLen) (hbase : base ≤ w.heap.size) :
    ∃ v' w', (Builtin.append_ #[t, t] t #[v, .slice (some ⟨w.heap.size, 0, none⟩) 1 1]).run Tryz.prog (w.alloc (.cells #[x] e)) = .ok v' w' ∧ w'.ownsRow base e 1 v' (n + 1) (xs ++ [x]) ∧ (w.alloc (.cells #[x] e)).grownBy w' v.ownBlock := by
  obtain ⟨i0, hi, hz0, hz1, hz2⟩ := info_parts hinfo
  obtain ⟨v', w', h1, h2, h3, _⟩ := run_append_own (P := Tryz.prog) (w.alloc (.cells #[x] e)) base t t e i0 z 1 bytes ht hi hz0 hz1 hz2 hzs (by decide) v n xs (own_alloc hown _) ⟨w.heap.size, 0, none⟩ 1 1 [x] rfl
    (by
      intro j u hu
      rcases j with _ | j
      · injection hu with hu
        subst hu
        rw [show (⟨w.heap.size, 0, none⟩ : Addr).add 0 = ⟨w.heap.size, 0, none⟩ by rfl, cell_of_row (w.alloc (.cells #[x] e)) w.heap.size 0 #[x] e (0, 0) (heap_alloc_new w _)]
        rfl
      · simp at hu) (by simpa using hx) h63 hsz (by simp; omega)
  exact ⟨v', w', h1, h2, h3⟩
section
variable {w w' : World} {B : Nat} {e : TypeId} {s : Nat} {v : Value} {n : Nat} {xs : List Value}
theorem row_keep (h : w.ownsRow B e s v n xs) (hk : ∀ k, k < w.heap.size → v.ownBlock = some k → w'.heap[k]? = w.heap[k]?) : w'.ownsRow B e s v n xs := by
  refine ⟨h.1, ?_⟩
  rcases h.2 with h2 | ⟨g, cap, cur, rfl, hbg, hg, hr⟩
  · exact .inl h2
  · exact .inr ⟨g, cap, cur, rfl, hbg, (hk g (Array.getElem?_eq_some_iff.1 hg).1 rfl).trans hg, hr⟩
theorem row_base (h : w.ownsRow B e s v n xs) {B' : Nat} (hB : ∀ k, v.ownBlock = some k → B' ≤ k) : w.ownsRow B' e s v n xs := by
  refine ⟨h.1, ?_⟩
  rcases h.2 with h2 | ⟨g, cap, cur, rfl, hbg, hg⟩
  · exact .inl h2
  · exact .inr ⟨g, cap, cur, rfl, hB g rfl, hg⟩
theorem row_lt (h : w.ownsRow B e s v n xs) {k : Nat} (hk : v.ownBlock = some k) : B ≤ k ∧ k < w.heap.size := by
  rcases h.2 with ⟨rfl, _⟩ | ⟨g, cap, cur, rfl, hbg, hg, _⟩
  · cases hk
  · injection hk with hk
    subst hk
    exact ⟨hbg, (Array.getElem?_eq_some_iff.1 hg).1⟩
theorem row_ne_blk (h : w.ownsRow B e s v n xs) {g : Nat} {cs : Array Value} {t : TypeId} {f : Nat × Nat} (hg : w.heap[g]? = some (.cells cs t f)) (hne : e ≠ t) : v.ownBlock ≠ some g := by
  rcases h.2 with ⟨rfl, _⟩ | ⟨b, cap, cur, rfl, hb, hr, _⟩
  · simp [Value.ownBlock]
  · simp [Value.ownBlock]
    rintro rfl
    rw [hr] at hg
    injection hg with hg
    injection hg with _ ht _
    exact hne ht
end
theorem then_ {a b c : World} (h : Below a.heap.size a b) (k : Below b.heap.size b c) : Below a.heap.size a c := h.trans (Below.mono k h.size)
end Go.Proofs.YtaapbmdojkjphaaGreat
namespace Go.Proofs.YtaapbmdojkjphaaGreat
open Go Go.RowKit
set_option linter.unusedVariables false
set_option maxRecDepth 20000
theorem rowI_to {k : IntKind} {w : World} {A : Option Addr} {n : Nat} {xs : List Int} (h : RowI k w A n xs) {m : Nat} (hm : m ≤ n) : RowI k w A m (xs.take m) := by
  refine ⟨by rw [List.length_take, h.1]; omega, fun h0 => ?_⟩
  obtain ⟨b, o, hA, hlt, hc⟩ := h.2 (by omega)
  refine ⟨b, o, hA, hlt, fun j hj => ?_⟩
  rw [hc j (by omega)]
  simp [List.getD, hj]
theorem u8_elemP : Tryz.prog.elem 41 = 5 := by kernel_rfl
theorem u8_sizeP (w : World) : (sizeOf 5).run Tryz.prog w = .ok 1 w := by kernel_rfl
theorem u8_sliceP : Tryz.prog.underlying 41 = some (.slice (Tryz.prog.elem 41)) := by rw [u8_elemP]; exact Tryz.underlying41
theorem upto_200 (A : Option Addr) (n c : Nat) (hh : 200 ≤ c) (w : World) :
    (Instr.slice 41 (.slice A n c) none (some (.int .i64 200)) none).run Tryz.prog w = .ok (.slice A 200 c) w := by
  have hr := run_slice_h (P := Tryz.prog) (w := w) (t := 41) (a := A) (len := n) (cap := c) (ht := u8_sliceP) (kh := .i64) (h := ((200 : Nat) : Int)) (h0 := by omega) (h2 := by omega)
  rw [show (200 : Int) = ((200 : Nat) : Int) from rfl, hr, u8_elemP, u8_sizeP]
  have ha : (if c = 0 then A else A.map fun x => x.add (0 * 1)) = A := by
    split
    · rfl
    · cases A <;> simp [Addr.add]
  simp [Result.andThen, sliced]
  intro hc
  rw [if_neg hc] at ha
  simpa using ha
theorem take_str (S : ByteArray) (n : Nat) : strOfNums ((nums S).take n) = S.extract 0 n := by
  rw [← strOfNums_nums (S.extract 0 n)]
  congr 1
  unfold nums
  rw [← List.map_take]
  congr 1
  rw [ByteArray.data_extract, Array.toList_extract]
  simp
end Go.Proofs.YtaapbmdojkjphaaGreat
namespace Go.Proofs.YtaapbmdojkjphaaGreat
open Go Go.RowKit
set_option linter.unusedVariables false
set_option maxRecDepth 20000
theorem indexByte_at (c : UInt8) : ∀ l : List UInt8, Lib.indexByte l c = -1 ∨ ∃ i : Nat, Lib.indexByte l c = i ∧ i < l.length
  | [] => .inl rfl
  | b :: l => by
    unfold Lib.indexByte
    by_cases hb : b = c
    · rw [if_pos (by simpa using hb)]
      exact .inr ⟨0, rfl, by simp⟩
    · rw [if_neg (by simpa using hb)]
      rcases indexByte_at c l with h1 | ⟨i, h1, h2⟩
      · rw [if_pos (by simpa using h1)]
        exact .inl rfl
      · rw [if_neg (by rw [h1]; simp), h1]
        exact .inr ⟨i + 1, by omega, by simpa using h2⟩
def numbersIB : Go.Shelf.Ren := ⟨fun | 217 => 131 | 266 => 151 | n => n, fun | 3 => 3 | 5 => 5 | 9 => 9 | n => n, fun n => n⟩
theorem laysIB : Go.Proofs.Lays.n217 Tryz.prog numbersIB where
  mixed := by kernel_rfl
  f217 := Tryz.func131.trans (congrArg some (by kernel_rfl))
  f266 := Tryz.func151.trans (congrArg some (by kernel_rfl))
  t3 := Tryz.underlying3
  a3 := Tryz.isAgg3
  z3 := Tryz.sizeOf3
  v3 := Tryz.zeroValue3
  t5 := Tryz.underlying5
  a5 := Tryz.isAgg5
  z5 := Tryz.sizeOf5
  v5 := Tryz.zeroValue5
  t9 := Tryz.underlying9
  a9 := Tryz.isAgg9
  z9 := Tryz.sizeOf9
  v9 := Tryz.zeroValue9
theorem ixByte_any (S : ByteArray) (w : World) :
    Calls Tryz.prog 131 #[.string S, .int .u8 239] w fun e w' => e = .returned (.int .i64 (Lib.indexByte S.data.toList 239)) ∧ w = w' :=
  (Go.Proofs.Any.stringslite_IndexByte laysIB S 239 w).mono fun e w' ⟨h1, h2⟩ => ⟨h1, h2.symm⟩
set_option maxHeartbeats 1000000 in
set_option maxRecDepth 100000 in
theorem ix_any (S : ByteArray) (w : World) :
    Calls Tryz.prog 108 #[.string S, .string ⟨#[239]⟩] w fun e w' => e = .returned (.int .i64 (Lib.indexByte S.data.toList 239)) ∧ w = w' := by
  have HI := Lib.hid (ixByte_any S w)
  by_cases hS : ([239] == S.toList) = true
  · have hl : [239] = S.toList := by simpa using hS
    have hx : Lib.indexByte S.data.toList 239 = 0 := by
      have e : S.data.toList = [239] := by rw [hl]; exact (Lib.toList_data S).symm
      rw [e]; rfl
    rw [hx]
    clear hl hx HI
    go_enter Tryz.func108, Tryz.ntmps108
    go_wp2_with fail
    go_ret
    exact ⟨rfl, rfl⟩
  · have hS : ([239] == S.toList) = false := by simpa using hS
    go_enter Tryz.func108, Tryz.ntmps108
    go_wp2_with (go_at_call 131; refine HI.out.mono ?_; rintro e w' ⟨rfl, rfl⟩)
    go_ret
    exact ⟨rfl, rfl⟩
set_option maxHeartbeats 1000000 in
theorem cutNo_any (S : ByteArray) (w : World) (h : Lib.indexByte S.data.toList 239 = -1) :
    Calls Tryz.prog 46 #[.string S, .string ⟨#[239]⟩] w fun e w' => e = .returned (.tuple #[.string S, .string ⟨#[]⟩, .bool false]) ∧ w = w' := by
  have HI := ix_any S w
  rw [h] at HI
  have HI := Lib.hid HI
  clear h
  go_enter Tryz.func46, Tryz.ntmps46
  go_wp2_with (first | (go_at_call 108; refine HI.out.mono ?_; rintro e w' ⟨rfl, rfl⟩) | go_in)
  go_ret3
  exact ⟨rfl, rfl⟩
set_option maxHeartbeats 1000000 in
theorem cutYes_any (S : ByteArray) (i : Nat) (w : World) (h : Lib.indexByte S.data.toList 239 = i) (hi : i < S.size) (hS : S.size ≤ 1000000) :
    Calls Tryz.prog 46 #[.string S, .string ⟨#[239]⟩] w fun e w' => e = .returned (.tuple #[.string (S.extract 0 i), .string (S.extract (i + 1) S.size), .bool true]) ∧ ∃ q, w' = w.drewN q := by
  have HI := ix_any S w
  rw [h] at HI
  have HI := Lib.hid HI
  clear h
  have h1 : (0 : Int) ≤ (i : Int) := by omega
  have h2 : (i : Int) ≤ (S.size : Int) := by omega
  have h3 : (0 : Int) ≤ (i : Int) + 1 := by omega
  have h4 : (i : Int) + 1 ≤ (S.size : Int) := by omega
  have h5 : IntKind.i64.wrap ((i : Int) + 1) = (i : Int) + 1 := by rw [IntKind.wrap_i64]; omega
  go_enter Tryz.func46, Tryz.ntmps46
  go_wp2_with (first | (go_at_call 108; refine HI.out.mono ?_; rintro e w' ⟨rfl, rfl⟩) | go_in)
  go_quiet (fail)
  go_wp2_with fail
  go_ret3
  exact ⟨rfl, _, rfl⟩
theorem cut_ahead (S : ByteArray) (w : World) (hS : S.size ≤ 1000000) :
    Calls Tryz.prog 46 #[.string S, .string ⟨#[239]⟩] w fun e w' => ∃ (U V : ByteArray) (b : Bool) (i : Nat), e = .returned (.tuple #[.string U, .string V, .bool b]) ∧ nums U = (nums S).take i ∧ Below w.heap.size w w' := by
  rcases indexByte_at 239 S.data.toList with h | ⟨i, h, hi⟩
  · refine (cutNo_any S w h).mono ?_
    rintro e w' ⟨rfl, rfl⟩
    exact ⟨S, _, _, S.size, rfl, by rw [List.take_of_length_le (by rw [nums_length]; exact Nat.le_refl _)], Below.refl _ _⟩
  · have hi' : i < S.size := by rw [Array.length_toList] at hi; exact hi
    refine (cutYes_any S i w h hi' hS).mono ?_
    rintro e w' ⟨rfl, q, rfl⟩
    refine ⟨S.extract 0 i, _, _, i, rfl, ?_, below_drewN (Below.refl _ _) q⟩
    have := take_str S i
    rw [← this, nums_strOfNums _ (fun c hc => nums_byte S c (List.mem_of_mem_take hc))]
theorem upto_1 (A : Option Addr) (w : World) :
    (Instr.slice 41 (.slice A 3 3) none (some (.int .i64 1)) none).run Tryz.prog w = .ok (.slice A 1 3) w := by
  have hr := run_slice_h (P := Tryz.prog) (w := w) (t := 41) (a := A) (len := 3) (cap := 3) (ht := u8_sliceP) (kh := .i64) (h := ((1 : Nat) : Int)) (h0 := by omega) (h2 := by omega)
  rw [show (1 : Int) = ((1 : Nat) : Int) from rfl, hr, u8_elemP, u8_sizeP]
  have ha : (if (3 : Nat) = 0 then A else A.map fun x => x.add (0 * 1)) = A := by
    cases A <;> simp [Addr.add]
  simp [Result.andThen, sliced]
  cases A <;> simp [Addr.add]
theorem put_wrong (w : World) : Calls Tryz.prog 45 #[.int .i64 65533] w fun e w' => ∃ g, e = .returned (.slice (some ⟨g, 0, none⟩) 3 3) ∧ RowI .u8 w' (some ⟨g, 0, none⟩) 1 [239] ∧ Below w.heap.size w w' := by
  have h := put_any 65533 w
  have e1 : putI (sndI 65533) = [239, 191, 189] := by kernel_rfl
  have e2 : putN 65533 = 3 := by kernel_rfl
  rw [e1, e2] at h
  refine h.mono ?_
  rintro e w' ⟨rfl, rfl⟩
  exact ⟨_, rfl, rowI_to (RowI.new .u8 w [239, 191, 189] 5) (m := 1) (by decide), (Below.refl _ _).alloc (Nat.le_refl _) _⟩
set_option maxHeartbeats 1000000 in
theorem begin_any (P : ByteArray) (w : World) (hP : P.size ≤ 1000000) : Calls Tryz.prog 22 #[.string P] w fun e w' => ∃ (S : ByteArray) (i : Nat), e = .returned (.string S) ∧ nums S = (nums P).take i ∧ Below w.heap.size w w' := by
  have HP := Lib.hid (put_wrong w)
  have HC := Lib.hid fun w => cut_ahead P w hP
  clear hP
  go_enter Tryz.func22, Tryz.ntmps22
  go_wp2_with (first
    | (go_at_call 45; (with_reducible refine HP.out.mono ?_); rintro e w1 ⟨g, rfl, hr, hb⟩; have hup := upto_1 (some ⟨g, 0, none⟩) w1; have hcv := strRow w1 (some ⟨g, 0, none⟩) 1 3 [239] hr; rw [show strOfNums [239] = ⟨#[239]⟩ from rfl] at hcv; have H1 := Lib.hid hb; clear hr hb)
    | (go_at_call 46; (with_reducible refine (HC.out _).mono ?_); rintro e w2 ⟨U, V, b, i, rfl, hU, hb⟩; have H2 := Lib.hid (And.intro hU (H1.out.trans (hb.mono H1.out.size))); clear hU hb))
  go_ret
  exact ⟨U, i, rfl, H2.out⟩
end Go.Proofs.YtaapbmdojkjphaaGreat
namespace Go.Proofs.YtaapbmdojkjphaaGreat
open Go Go.RowKit
set_option linter.unusedVariables false
def hasL (s : List (Int × Int)) (r : Int) : Bool := s.any fun p => decide (p.1 ≤ r ∧ r ≤ p.2 ∧ 0 ≤ r ∧ r ≤ 1114111)
def CanonF : Int → List (Int × Int) → Prop
  | _, [] => True
  | lo, p :: s => lo ≤ p.1 ∧ p.1 ≤ p.2 ∧ p.2 ≤ 1114111 ∧ CanonF (p.2 + 2) s
def Canon (s : List (Int × Int)) : Prop := CanonF 0 s
theorem hasL_nil (r : Int) : hasL [] r = false := rfl
theorem hasL_cons (p : Int × Int) (s : List (Int × Int)) (r : Int) : hasL (p :: s) r = (decide (p.1 ≤ r ∧ r ≤ p.2 ∧ 0 ≤ r ∧ r ≤ 1114111) || hasL s r) := rfl
theorem hasL_append (a b : List (Int × Int)) (r : Int) : hasL (a ++ b) r = (hasL a r || hasL b r) := by simp [hasL]
theorem hasL_iff (s : List (Int × Int)) (r : Int) : hasL s r = true ↔ ∃ p ∈ s, p.1 ≤ r ∧ r ≤ p.2 ∧ 0 ≤ r ∧ r ≤ 1114111 := by simp [hasL]
theorem hasL_in {s : List (Int × Int)} {r : Int} (h : hasL s r = true) : 0 ≤ r ∧ r ≤ 1114111 := by
  obtain ⟨p, _, h1⟩ := (hasL_iff s r).1 h
  omega
theorem CanonF.mono : ∀ {s : List (Int × Int)} {lo lo' : Int}, CanonF lo s → lo' ≤ lo → CanonF lo' s
  | [], _, _, _, _ => trivial
  | p :: s, lo, lo', h, hl => ⟨by have := h.1; omega, h.2⟩
theorem CanonF.ge : ∀ {s : List (Int × Int)} {lo r : Int}, CanonF lo s → hasL s r = true → lo ≤ r
  | [], _, _, _, h => by cases h
  | p :: s, lo, r, hc, h => by
    obtain ⟨h1, h2, h3, h4⟩ := hc
    rw [hasL_cons, Bool.or_eq_true, decide_eq_true_eq] at h
    rcases h with h | h
    · omega
    · have := CanonF.ge h4 h; omega
theorem canon_eq : ∀ (a b : List (Int × Int)) (lo : Int), 0 ≤ lo → CanonF lo a → CanonF lo b → (∀ r, hasL a r = hasL b r) → a = b
  | [], [], _, _, _, _, _ => rfl
  | [], q :: b, lo, h0, _, hb, h => by
    have h1 := h q.1
    obtain ⟨h2, h3, h4, h5⟩ := hb
    rw [hasL_nil, hasL_cons, decide_eq_true (by omega)] at h1
    cases h1
  | p :: a, [], lo, h0, ha, _, h => by
    have h1 := h p.1
    obtain ⟨h2, h3, h4, h5⟩ := ha
    rw [hasL_nil, hasL_cons, decide_eq_true (by omega)] at h1
    cases h1
  | p :: a, q :: b, lo, h0, ha, hb, h => by
    obtain ⟨a1, a2, a3, a4⟩ := ha
    obtain ⟨b1, b2, b3, b4⟩ := hb
    have key : ∀ (x y : Int × Int) (s t : List (Int × Int)), lo ≤ x.1 → x.1 ≤ x.2 → x.2 ≤ 1114111 → lo ≤ y.1 → y.1 ≤ y.2 → CanonF (y.2 + 2) t → (∀ r, hasL (x :: s) r = hasL (y :: t) r) → y.1 ≤ x.1 := by
      intro x y s t x1 x2 x3 y1 y2 hy he
      have h1 := he x.1
      rw [hasL_cons, decide_eq_true (by omega), Bool.true_or, hasL_cons] at h1
      have h2 := h1.symm
      rw [Bool.or_eq_true, decide_eq_true_eq] at h2
      rcases h2 with h2 | h2
      · omega
      · have := hy.ge h2; omega
    have e1 : p.1 = q.1 := by
      have k1 := key p q a b a1 a2 a3 b1 b2 b4 h
      have k2 := key q p b a b1 b2 b3 a1 a2 a4 fun r => (h r).symm
      omega
    have key2 : ∀ (x y : Int × Int) (s t : List (Int × Int)), x.1 = y.1 → lo ≤ x.1 → x.1 ≤ x.2 → y.2 ≤ 1114111 → CanonF (x.2 + 2) s → (∀ r, hasL (x :: s) r = hasL (y :: t) r) → y.2 ≤ x.2 := by
      intro x y s t exy x1 x2 y3 hx he
      rcases Int.lt_or_le x.2 y.2 with hlt | hle
      · have h1 := he (x.2 + 1)
        rw [hasL_cons y, decide_eq_true (by omega), Bool.true_or, hasL_cons, Bool.or_eq_true, decide_eq_true_eq] at h1
        rcases h1 with h1 | h1
        · omega
        · have := hx.ge h1; omega
      · exact hle
    have e2 : p.2 = q.2 := by
      have k1 := key2 p q a b e1 a1 a2 b3 a4 h
      have k2 := key2 q p b a e1.symm b1 b2 a3 b4 fun r => (h r).symm
      omega
    have epq : p = q := Prod.ext e1 e2
    subst epq
    have ht : ∀ r, hasL a r = hasL b r := by
      intro r
      have h1 := h r
      rw [hasL_cons, hasL_cons] at h1
      rcases Int.lt_or_le r (p.2 + 2) with hlt | hle
      · have ha' : hasL a r = false := by
          cases hx : hasL a r with
          | false => rfl
          | true => have := a4.ge hx; omega
        have hb' : hasL b r = false := by
          cases hx : hasL b r with
          | false => rfl
          | true => have := b4.ge hx; omega
        rw [ha', hb']
      · rw [decide_eq_false (by omega), Bool.false_or, Bool.false_or] at h1
        exact h1
    rw [canon_eq a b (p.2 + 2) (by omega) a4 b4 ht]
theorem canon_one {a b : List (Int × Int)} (ha : Canon a) (hb : Canon b) (h : ∀ r, hasL a r = hasL b r) : a = b := canon_eq a b 0 (Int.le_refl _) ha hb h
end Go.Proofs.YtaapbmdojkjphaaGreat
namespace Go.Proofs.YtaapbmdojkjphaaGreat
open Go Go.RowKit
set_option linter.unusedVariables false
set_option maxRecDepth 20000
def cellsG (s : List (Int × Int)) : List Value := s.flatMap fun p => [.int .i64 p.1, .int .i64 p.2]
theorem cellsG_length (s : List (Int × Int)) : (cellsG s).length = s.length * 2 := by
  induction s with
  | nil => rfl
  | cons p s ih =>
    show ([_, _] ++ cellsG s).length = _
    rw [List.length_append, ih]
    simp
    omega
theorem cellsG_append (a b : List (Int × Int)) : cellsG (a ++ b) = cellsG a ++ cellsG b := by simp [cellsG]
theorem cellsG_at : ∀ (s : List (Int × Int)) (j : Nat), j < s.length → (cellsG s)[j * 2]? = some (.int .i64 (s.getD j (0, 0)).1) ∧ (cellsG s)[j * 2 + 1]? = some (.int .i64 (s.getD j (0, 0)).2)
  | [], j, h => by simp at h
  | p :: s, 0, _ => ⟨rfl, rfl⟩
  | p :: s, j + 1, h => by
    have ih := cellsG_at s j (by simpa using h)
    have e1 : (j + 1) * 2 = j * 2 + 2 := by omega
    show ([.int .i64 p.1, .int .i64 p.2] ++ cellsG s)[(j + 1) * 2]? = _ ∧ ([.int .i64 p.1, .int .i64 p.2] ++ cellsG s)[(j + 1) * 2 + 1]? = _
    rw [List.getElem?_append_right (by simp; omega), List.getElem?_append_right (by simp; omega), e1]
    simpa using ih
def RowG (w : World) (A : Option Addr) (n : Nat) (s : List (Int × Int)) : Prop :=
  s.length = n ∧ (0 < n → ∃ b o, A = some ⟨b, o, none⟩ ∧ b < w.heap.size ∧ ∀ j, j < n →
    w.cell? ⟨b, o + j * 2, none⟩ = some (.int .i64 (s.getD j (0, 0)).1) ∧ w.cell? ⟨b, o + j * 2 + 1, none⟩ = some (.int .i64 (s.getD j (0, 0)).2))
section
variable {w w' : World} {A : Option Addr} {n : Nat} {s : List (Int × Int)}
theorem RowG.nil_ : RowG w A 0 [] := ⟨rfl, fun h => absurd h (by omega)⟩
theorem RowG.drewN (h : RowG w A n s) (q : Nat) : RowG (w.drewN q) A n s := h
theorem RowG.below (h : RowG w A n s) {B : Nat} (hb : Below B w w') (hB : w.heap.size ≤ B) : RowG w' A n s := by
  refine ⟨h.1, fun hn => ?_⟩
  obtain ⟨b, o, hA, hlt, hc⟩ := h.2 hn
  refine ⟨b, o, hA, Nat.lt_of_lt_of_le hlt hb.size, fun j hj => ?_⟩
  rw [hb.cell (p := ⟨b, o + j * 2, none⟩) (show b < B by omega), hb.cell (p := ⟨b, o + j * 2 + 1, none⟩) (show b < B by omega)]
  exact hc j hj
end
theorem rowG_of_own {w : World} {B : Nat} {V : Value} {s : List (Int × Int)} {n : Nat} (h : w.ownsRow B 74 2 V n (cellsG s)) (hl : s.length = n) : ∃ A c, V = .slice A n c ∧ RowG w A n s ∧ n ≤ c ∧ c ≤ maxLen := by
  rcases h.2 with ⟨rfl, rfl⟩ | ⟨g, cap, cur, rfl, hB, hg, hnc, hcm, hcs, ht⟩
  · exact ⟨none, 0, rfl, ⟨hl, fun h => absurd h (by omega)⟩, Nat.le_refl _, Nat.zero_le _⟩
  · refine ⟨_, cap, rfl, ⟨hl, fun hn => ⟨g, 0, rfl, (Array.getElem?_eq_some_iff.1 hg).1, fun j hj => ?_⟩⟩, hnc, hcm⟩
    obtain ⟨e1, e2⟩ := cellsG_at s j (by omega)
    refine ⟨?_, ?_⟩
    · rw [cell_of_row w g (0 + j * 2) cur 74 (0, 0) hg, ← e1, ← ht, List.getElem?_take_of_lt (by omega), Array.getElem?_toList, Nat.zero_add]
    · rw [cell_of_row w g (0 + j * 2 + 1) cur 74 (0, 0) hg, ← e2, ← ht, List.getElem?_take_of_lt (by omega), Array.getElem?_toList, Nat.zero_add]
theorem info_rng : (Tryz.prog.info? 74).map (fun i => (i.zero, i.size, i.bytes)) = some (some (.agg #[.int .i64 0, .int .i64 0]), 2, 16) := by kernel_rfl
set_option maxHeartbeats 1000000 in
theorem rhas_any (s : List (Int × Int)) (A : Option Addr) (n c : Nat) (r : Int) (W : World) (hr : RowG W A n s) (hn : n ≤ 1000000) :
    Calls Tryz.prog 99 #[.slice A n c, .int .i64 r] W fun e w' => e = .returned (.bool (hasL s r)) ∧ W = w' := by
  have HR := Lib.hid hr; clear hr
  go_enter Tryz.func99, Tryz.ntmps99
  go_wp2
  go_loopw [5] (fun i wr => ∃ k : Nat, k ≤ n ∧ i = .int .i64 k ∧ Hid (hasL (s.take k) r = false) ∧ wr = W) (fun i _ => n - (intOf i).toNat)
  case atStart => exact ⟨0, Nat.zero_le _, rfl, Lib.hid rfl, rfl⟩
  case round =>
    obtain ⟨k, hk, rfl, HF, rfl⟩ := hrel
    by_cases hlt : k < n
    · obtain ⟨b, o, rfl, _, hc⟩ := HR.out.2 (by omega)
      obtain ⟨c0, c1⟩ := hc k hlt
      have hl := HR.out.1
      have htk : s.take (k + 1) = s.take k ++ [s.getD k (0, 0)] := by
        rw [List.take_succ_eq_append_getElem (by omega)]
        simp [List.getD, List.getElem?_eq_getElem (show k < s.length by omega)]
      have hmem : s.getD k (0, 0) ∈ s := by
        rw [List.getD, List.getElem?_eq_getElem (by omega)]
        exact List.getElem_mem _
      obtain ⟨p, hp⟩ : ∃ p, p = s.getD k (0, 0) := ⟨_, rfl⟩
      rw [← hp] at c0 c1 htk hmem
      clear hc hp hl
      obtain ⟨x, y⟩ := p
      have HTK := Lib.hid htk
      have HMEM := Lib.hid hmem
      clear htk hmem
      by_cases hin : x ≤ r ∧ r ≤ y ∧ 0 ≤ r ∧ r ≤ 1114111
      · obtain ⟨h1, h2, h3, h4⟩ := hin
        have hh : hasL s r = true := (hasL_iff s r).2 ⟨(x, y), HMEM.out, h1, h2, h3, h4⟩
        have HFF := Lib.hid hh
        clear hh
        go_wp2
        go_ret
        rw [HFF.out]
        exact ⟨rfl, rfl⟩
      · have HN : Hid (hasL (s.take (k + 1)) r = false) := Lib.hid (by
          rw [HTK.out, hasL_append, HF.out, hasL_cons, hasL_nil, Bool.false_or, Bool.or_false]
          exact decide_eq_false hin)
        by_cases h1 : x ≤ r
        · by_cases h2 : r ≤ y
          · by_cases h3 : 0 ≤ r
            · have h4 : ¬ r ≤ 1114111 := fun q => hin ⟨h1, h2, h3, q⟩
              clear hin
              go_wp2
              exact ⟨⟨k + 1, by omega, by go_num, HN, trivial⟩, by simp [intOf]; omega⟩
            · clear hin
              go_wp2
              exact ⟨⟨k + 1, by omega, by go_num, HN, trivial⟩, by simp [intOf]; omega⟩
          · clear hin
            go_wp2
            exact ⟨⟨k + 1, by omega, by go_num, HN, trivial⟩, by simp [intOf]; omega⟩
        · clear hin
          go_wp2
          exact ⟨⟨k + 1, by omega, by go_num, HN, trivial⟩, by simp [intOf]; omega⟩
    · have hkn : k = n := by omega
      subst hkn
      have hf : hasL s r = false := by
        have := HF.out
        rwa [List.take_of_length_le (by have := HR.out.1; omega)] at this
      have HFF := Lib.hid hf
      clear hf
      go_wp2
      go_ret
      rw [HFF.out]
      exact ⟨rfl, rfl⟩
end Go.Proofs.YtaapbmdojkjphaaGreat
