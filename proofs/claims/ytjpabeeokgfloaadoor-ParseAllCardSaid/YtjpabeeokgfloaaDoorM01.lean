/- Plain words on numbers for package code: which numbers are code points, how many octets they have, and which. -/
import Derived.Laws.BytesArg
import Derived.IntWalk
import Derived.Laws.BitsLemmas
import Derived.Test.YtjpabeeokgfloaaDoorRows
import Derived.WalkKit
import Derived.ProofKit
import Derived.OpenShut
import Derived.Handy
import Derived.Lib.Hide
import Derived.Below
import Derived.Laws.OwnMore
import Derived.Deep.AppendLies
import Derived.Deep.Draws
import Derived.Laws.IdiomStrings
namespace Go.Proofs.YtjpabeeokgfloaaDoor
open Go

/-- Is r a code point? -/
def isI (r : Int) : Bool := decide (0 ≤ r) && decide (r ≤ 1114111) && !(decide (55296 ≤ r) && decide (r ≤ 57343))
/-- How many octets. -/
def szI (r : Int) : Int := if isI r = false then 0 else if r < 128 then 1 else if r < 2048 then 2 else if r < 65536 then 3 else 4
/-- r, or 65533. -/
def sndI (r : Int) : Int := if isI r = true then r else 65533

theorem isI_true {r : Int} : isI r = true ↔ 0 ≤ r ∧ r ≤ 1114111 ∧ ¬ (55296 ≤ r ∧ r ≤ 57343) := by
  unfold isI; simp; omega
theorem isI_false {r : Int} : isI r = false ↔ ¬ (0 ≤ r ∧ r ≤ 1114111 ∧ ¬ (55296 ≤ r ∧ r ≤ 57343)) := by
  rw [← isI_true]; simp
theorem sndI_is (r : Int) : isI (sndI r) = true := by
  unfold sndI; split
  · assumption
  · decide

theorem wraps_i64 (n : Int) (h₀ : 0 ≤ n) (h₁ : n < 2 ^ 62) : IntKind.i64.wrap n = n := by rw [IntKind.wrap_i64]; omega
theorem bits_or_comm (k : IntKind) (a b : Int) : bits .or k a b = bits .or k b a := by
  simp only [bits, BitVec.or_comm]
theorem i64_and63 {x : Int} (h₀ : 0 ≤ x) (h₁ : x < 4611686018427387904) : bits .and .i64 x 63 = x % 64 := bits_mask .i64 62 (by decide) wraps_i64 6 (by decide) x h₀ h₁
theorem i64_and1023 {x : Int} (h₀ : 0 ≤ x) (h₁ : x < 4611686018427387904) : bits .and .i64 x 1023 = x % 1024 := bits_mask .i64 62 (by decide) wraps_i64 10 (by decide) x h₀ h₁
theorem i64_or128 {y : Int} (h₀ : 0 ≤ y) (h₁ : y < 64) : bits .or .i64 y 128 = 128 + y := by
  rw [bits_or_comm]
  exact bits_join .i64 62 (by decide) wraps_i64 6 128 y (by decide) (by decide) (by decide) h₀ h₁ (by omega)
theorem i64_or6 {x y : Int} (hx₀ : 0 ≤ x) (hx : x % 64 = 0) (hx₁ : x < 4611686018427387904) (h₀ : 0 ≤ y) (h₁ : y < 64) : bits .or .i64 x y = x + y :=
  bits_join .i64 62 (by decide) wraps_i64 6 x y hx₀ hx hx₁ h₀ h₁ (by omega)
theorem i64_or10 {x y : Int} (hx₀ : 0 ≤ x) (hx : x % 1024 = 0) (hx₁ : x < 4611686018427387904) (h₀ : 0 ≤ y) (h₁ : y < 1024) : bits .or .i64 x y = x + y :=
  bits_join .i64 62 (by decide) wraps_i64 10 x y hx₀ hx hx₁ h₀ h₁ (by omega)
theorem i64_or12 {x y : Int} (hx₀ : 0 ≤ x) (hx : x % 4096 = 0) (hx₁ : x < 4611686018427387904) (h₀ : 0 ≤ y) (h₁ : y < 4096) : bits .or .i64 x y = x + y :=
  bits_join .i64 62 (by decide) wraps_i64 12 x y hx₀ hx hx₁ h₀ h₁ (by omega)
theorem i64_or18 {x y : Int} (hx₀ : 0 ≤ x) (hx : x % 262144 = 0) (hx₁ : x < 4611686018427387904) (h₀ : 0 ≤ y) (h₁ : y < 262144) : bits .or .i64 x y = x + y :=
  bits_join .i64 62 (by decide) wraps_i64 18 x y hx₀ hx hx₁ h₀ h₁ (by omega)

/-- The octets of r, a number that is a code point. -/
def putI (r : Int) : List Int :=
  if r < 128 then [r] else
  if r < 2048 then [192 + r / 64, 128 + r % 64] else
  if r < 65536 then [224 + r / 4096, 128 + r / 64 % 64, 128 + r % 64] else
  [240 + r / 262144, 128 + r / 4096 % 64, 128 + r / 64 % 64, 128 + r % 64]
end Go.Proofs.YtjpabeeokgfloaaDoor
/- Contracts of the small functions of package code. -/
namespace Go.Proofs.YtjpabeeokgfloaaDoor
open Go Go.RowKit

theorem is_any (r : Int) (w : World) : Calls Tryd.prog 35 #[.int .i64 r] w fun e w' => e = .returned (.bool (isI r)) ∧ w = w' := by
  by_cases h1 : 0 ≤ r <;> by_cases h2 : r ≤ 1114111 <;> by_cases h3 : 55296 ≤ r <;> by_cases h4 : r ≤ 57343
  all_goals
    go_enter Tryd.func35, Tryd.ntmps35
    go_wp2
    go_ret
    exact ⟨by first | (simp [isI, h1, h2, h3, h4]; done) | (simp [isI]; omega), rfl⟩

theorem refIs_any (r : Int) (w : World) : Calls Tryd.prog 40 #[.int .i64 r] w fun e w' => e = .returned (.bool (isI r)) ∧ w = w' := by
  by_cases h1 : 0 ≤ r <;> by_cases h2 : r ≤ 1114111 <;> by_cases h3 : 55296 ≤ r <;> by_cases h4 : r ≤ 57343
  all_goals
    go_enter Tryd.func40, Tryd.ntmps40
    go_wp2
    go_ret
    exact ⟨by first | (simp [isI, h1, h2, h3, h4]; done) | (simp [isI]; omega), rfl⟩

theorem isI_cases {r : Int} (h : isI r = true) : 0 ≤ r ∧ r ≤ 1114111 := by rw [isI_true] at h; omega

theorem size_no (r : Int) (w : World) (h : isI r = false) : Calls Tryd.prog 19 #[.int .i64 r] w fun e w' => e = .returned (.int .i64 0) ∧ w = w' := by
  have hc := is_any r w
  rw [h] at hc
  go_enter Tryd.func19, Tryd.ntmps19
  go_wp2_with (go_at_call 35; refine hc.mono ?_; rintro e w' ⟨rfl, rfl⟩)
  go_ret
  exact ⟨rfl, rfl⟩

theorem size_any (r : Int) (w : World) : Calls Tryd.prog 19 #[.int .i64 r] w fun e w' => e = .returned (.int .i64 (szI r)) ∧ w = w' := by
  rcases hb : isI r with _ | _
  · refine (size_no r w hb).mono ?_
    rintro e w' ⟨rfl, rfl⟩
    simp [szI, hb]
  · have hc := is_any r w
    rw [hb] at hc
    have HB := Lib.hid hb; clear hb
    rcases (show r < 128 ∨ (128 ≤ r ∧ r < 2048) ∨ (2048 ≤ r ∧ r < 65536) ∨ 65536 ≤ r by omega) with h1 | ⟨h1, h2⟩ | ⟨h1, h2⟩ | h1
    all_goals
      go_enter Tryd.func19, Tryd.ntmps19
      go_wp2_with (go_at_call 35; refine hc.mono ?_; rintro e w' ⟨rfl, rfl⟩)
      go_ret
      exact ⟨by simp [szI, HB.out]; omega, rfl⟩

theorem refSize_any (r : Int) (w : World) : Calls Tryd.prog 41 #[.int .i64 r] w fun e w' => e = .returned (.int .i64 (szI r)) ∧ w = w' := by
  have hc := refIs_any r w
  rcases hb : isI r with _ | _
  · rw [hb] at hc
    have HB := Lib.hid hb; clear hb
    go_enter Tryd.func41, Tryd.ntmps41
    go_wp2_with (go_at_call 40; refine hc.mono ?_; rintro e w' ⟨rfl, rfl⟩)
    go_ret
    exact ⟨by simp [szI, HB.out], rfl⟩
  · rw [hb] at hc
    have HB := Lib.hid hb; clear hb
    rcases (show r < 128 ∨ (128 ≤ r ∧ r < 2048) ∨ (2048 ≤ r ∧ r < 65536) ∨ 65536 ≤ r by omega) with h1 | ⟨h1, h2⟩ | ⟨h1, h2⟩ | h1
    all_goals
      go_enter Tryd.func41, Tryd.ntmps41
      go_wp2_with (go_at_call 40; refine hc.mono ?_; rintro e w' ⟨rfl, rfl⟩)
      go_ret
      exact ⟨by simp [szI, HB.out]; omega, rfl⟩




end Go.Proofs.YtjpabeeokgfloaaDoor
/- Words on memory: a slice of whole numbers that reads as a list. -/
namespace Go.Proofs.YtjpabeeokgfloaaDoor
open Go Go.RowKit

/-- The slice with address A and n elements reads as xs; where it has an element, it lies in a block that is there. -/
def RowI (k : IntKind) (w : World) (A : Option Addr) (n : Nat) (xs : List Int) : Prop :=
  xs.length = n ∧ (0 < n → ∃ b o, A = some ⟨b, o, none⟩ ∧ b < w.heap.size ∧ ∀ j, j < n → w.cell? ⟨b, o + j, none⟩ = some (.int k (xs.getD j 0)))

theorem below_drewN {B : Nat} {a w : World} (h : Below B a w) (q : Nat) : Below B a (w.drewN q) := ⟨h.os, h.tape, h.output, h.size, h.block⟩

theorem at_new (w : World) (o : Obj) {g : Nat} (hg : g = w.heap.size) : (w.alloc o).heap[g]? = some o := by subst hg; exact heap_alloc_new w o
theorem at_up {w : World} {g : Nat} {o : Obj} (h : w.heap[g]? = some o) (o' : Obj) : (w.alloc o').heap[g]? = some o := by
  have hlt : g < w.heap.size := by
    rcases Nat.lt_or_ge g w.heap.size with hlt | hge
    · exact hlt
    · rw [Array.getElem?_eq_none hge] at h; cases h
  exact (Below.heap_alloc w o' g hlt).trans h

section
variable {k : IntKind} {w w' : World} {A : Option Addr} {n : Nat} {xs : List Int}
theorem RowI.nil_ : RowI k w A 0 [] := ⟨rfl, fun h => absurd h (by omega)⟩
theorem RowI.drewN (h : RowI k w A n xs) (q : Nat) : RowI k (w.drewN q) A n xs := h
theorem RowI.below (h : RowI k w A n xs) {B : Nat} (hb : Below B w w') (hB : w.heap.size ≤ B) : RowI k w' A n xs := by
  refine ⟨h.1, fun hn => ?_⟩
  obtain ⟨b, o, hA, hlt, hc⟩ := h.2 hn
  refine ⟨b, o, hA, Nat.lt_of_lt_of_le hlt hb.size, fun j hj => ?_⟩
  rw [hb.cell (p := ⟨b, o + j, none⟩) (show b < B by omega)]
  exact hc j hj
theorem RowI.alloc (h : RowI k w A n xs) (o : Obj) : RowI k (w.alloc o) A n xs :=
  h.below ((Below.refl w.heap.size w).alloc (Nat.le_refl _) o) (Nat.le_refl _)
theorem RowI.new (k : IntKind) (w : World) (xs : List Int) (t : TypeId) : RowI k (w.alloc (.cells (xs.map (Value.int k)).toArray t)) (some ⟨w.heap.size, 0, none⟩) xs.length xs := by
  refine ⟨rfl, fun _ => ⟨_, _, rfl, by simp, fun j hj => ?_⟩⟩
  simp [List.getElem?_eq_getElem hj]
/-- s[i:j], of a slice that reads as a list. -/
theorem RowI.cut {b o : Nat} (h : RowI k w (some ⟨b, o, none⟩) n xs) {i j : Nat} (hij : i ≤ j) (hj : j ≤ n) : RowI k w (some ⟨b, o + i, none⟩) (j - i) ((xs.drop i).take (j - i)) := by
  have hl := h.1
  refine ⟨by simp; omega, fun hn => ?_⟩
  obtain ⟨b', o', hA, hlt, hc⟩ := h.2 (by omega)
  injection hA with hA
  injection hA with hb ho
  subst hb ho
  refine ⟨_, _, rfl, hlt, fun m hm => ?_⟩
  rw [Nat.add_assoc, hc (i + m) (by omega)]
  simp [List.getD, List.getElem?_drop, hm]
end
end Go.Proofs.YtjpabeeokgfloaaDoor
/- A string's octets as numbers; []byte(s). -/
namespace Go.Proofs.YtjpabeeokgfloaaDoor
open Go Go.RowKit

/-- A string's octets as numbers. -/
def nums (s : ByteArray) : List Int := s.data.toList.map fun c => (c.toNat : Int)
theorem nums_length (s : ByteArray) : (nums s).length = s.size := by simp [nums]
theorem nums_byte (s : ByteArray) : ∀ c ∈ nums s, 0 ≤ c ∧ c < 256 := by
  intro c hc
  obtain ⟨b, _, rfl⟩ := List.mem_map.1 hc
  have := b.toNat_lt
  omega
theorem nums_get (s : ByteArray) (k : Nat) (h : k < s.size) (h' : k < (nums s).length) : (nums s)[k] = (s[k].toNat : Int) := by
  simp [nums]; rfl
theorem strOfNums_nums (s : ByteArray) : strOfNums (nums s) = s := by
  apply ByteArray.ext
  apply Array.toList_inj.1
  rw [strOfNums_data]
  simp [nums, Function.comp_def]
theorem nums_strOfNums (l : List Int) (h : ∀ c ∈ l, 0 ≤ c ∧ c < 256) : nums (strOfNums l) = l := by
  unfold nums
  rw [strOfNums_data, List.map_map]
  conv => rhs; rw [← List.map_id l]
  apply List.map_congr_left
  intro c hc
  have := h c hc
  simp
  omega

theorem idx_at (s : ByteArray) (k : Nat) (h : k < s.size) (w : World) : (Instr.index 9 (.string s) (.int .i64 (k : Int))).run Tryd.prog w = .ok (.int .u8 ((nums s).getD k 0)) w := by
  rw [run_index_string w 9 s .i64 k Tryd.underlying9, dif_pos ⟨by omega, by omega⟩]
  have h' : k < (nums s).length := by rw [nums_length]; exact h
  rw [show (nums s).getD k 0 = (s[k].toNat : Int) by rw [← nums_get s k h h']; simp [List.getD, h']]
  simp
theorem nums_extract_to (s : ByteArray) (p : Nat) : nums (s.extract p s.size) = (nums s).drop p := by
  unfold nums
  rw [← List.map_drop]
  congr 1
  rw [ByteArray.data_extract, Array.toList_extract]
  show (s.data.toList.drop p).take (s.size - p) = _
  exact List.take_of_length_le (by rw [List.length_drop, Array.length_toList]; exact Nat.le_refl _)
/-- []byte(s). -/
theorem bytes_run (s : ByteArray) (w : World) (hs : s.size ≤ maxLen) : ∃ A c w', (convert 9 51 (.string s)).run Tryd.prog w = .ok (.slice A s.size c) w' ∧ RowI .u8 w' A s.size (nums s) ∧ s.size ≤ c ∧ c ≤ maxLen ∧ Below w.heap.size w w' := by
  refine ⟨_, _, _, run_bytes_of_string w _ _ _ s Tryd.underlying9 Tryd.underlying51 Tryd.underlying5, ⟨nums_length s, fun h0 => ⟨_, _, rfl, ?_, fun j hj => ?_⟩⟩, ?_, ?_, ?_⟩
  · show w.heap.size < (w.heap.push _).size
    rw [Array.size_push]; omega
  · rw [Nat.zero_add]
    refine (World.cell?_alloc_mark w.drew _ _ _ j).trans ?_
    unfold bytesRow
    rw [Array.getElem?_append_left (by rw [Array.size_map]; exact hj), Array.getElem?_map]
    have hj' : j < s.data.size := hj
    have hn : j < (nums s).length := by rw [nums_length]; exact hj
    rw [Array.getElem?_eq_getElem hj']
    have e := nums_get s j hj hn
    rw [List.getD, List.getElem?_eq_getElem hn, Option.getD_some, e]
    rfl
  · exact grownCap_ge w s.size 0 _
  · exact grownCap_le_maxLen w s.size 0 _ hs
  · exact ((Below.refl _ _).drew).alloc (Nat.le_refl _) _
end Go.Proofs.YtjpabeeokgfloaaDoor
