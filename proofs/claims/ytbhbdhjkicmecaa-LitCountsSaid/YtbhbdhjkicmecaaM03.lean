/- The contract of Put of package code. -/
import Derived.Test.YtbhbdhjkicmecaaM02
import Derived.Below
import Derived.Laws.OwnMore
import Derived.Deep.AppendLies
import Derived.Deep.Draws
import Derived.WalkSpells
import Derived.Maps.AppendAt
import Derived.Tactics
namespace Go.Proofs.Ytbhbdhjkicmecaa
open Go Go.RowKit

theorem u8_or0 {y : Int} (h₀ : 0 ≤ y) (h₁ : y < 256) : bits .or .u8 0 y = y := by
  rw [bits_join .u8 8 (by decide) wraps_u8 8 0 y (by decide) (by decide) (by decide) h₀ h₁ (by omega)]; omega

theorem mk1 (w : World) : (Instr.makeSlice 25 (.int .i64 1) (.int .i64 1)).run Try.prog w = .ok (.slice (some ⟨w.heap.size, 0, none⟩) 1 1) (w.alloc (.cells #[.int .u8 0] 5)) := by kernel_rfl
set_option maxHeartbeats 400000 in
theorem put1 (r s : Int) (w : World) (hs : isI s = true) (h1 : s < 128)
    (hc : ∀ w, Calls Try.prog 43 #[.int .i64 r] w fun e w' => e = .returned (.int .i64 s) ∧ w = w') :
    Calls Try.prog 28 #[.int .i64 r] w fun e w' => e = .returned (.slice (some ⟨w.heap.size, 0, none⟩) 1 1) ∧ w' = w.alloc (.cells #[.int .u8 s] 5) := by
  have h0 := isI_cases hs
  have hz := fun w => size_any s w
  have ez : szI s = 1 := by simp [szI, hs]; omega
  rw [ez] at hz
  clear ez
  have HS := Lib.hid hs; clear hs
  have HC := Lib.hid hc; clear hc
  have HZ := Lib.hid hz; clear hz
  obtain ⟨h0, h00⟩ := h0
  have hmk := mk1
  go_enter Try.func28, Try.ntmps28
  go_wp2_with fail
  refine (HC.out _).mono ?_; rintro e w' ⟨rfl, rfl⟩
  go_wp2_with fail
  refine (HZ.out _).mono ?_; rintro e w' ⟨rfl, rfl⟩
  go_wp2_with fail
  go_ret
  exact ⟨rfl, by rw [u8_or0 h0 (by omega)]⟩

theorem mk2 (w : World) : (Instr.makeSlice 25 (.int .i64 2) (.int .i64 2)).run Try.prog w = .ok (.slice (some ⟨w.heap.size, 0, none⟩) 2 2) (w.alloc (.cells #[.int .u8 0, .int .u8 0] 5)) := by kernel_rfl
set_option maxHeartbeats 400000 in
theorem put2 (r s : Int) (w : World) (hs : isI s = true) (h1 : 128 ≤ s) (h2 : s < 2048)
    (hc : ∀ w, Calls Try.prog 43 #[.int .i64 r] w fun e w' => e = .returned (.int .i64 s) ∧ w = w') :
    Calls Try.prog 28 #[.int .i64 r] w fun e w' => e = .returned (.slice (some ⟨w.heap.size, 0, none⟩) 2 2) ∧ w' = w.alloc (.cells #[.int .u8 (192 + s / 64), .int .u8 (128 + s % 64)] 5) := by
  have h0 := isI_cases hs
  have hz := fun w => size_any s w
  have ez : szI s = 2 := by simp [szI, hs]; omega
  rw [ez] at hz
  clear ez
  have HS := Lib.hid hs; clear hs
  have HC := Lib.hid hc; clear hc
  have HZ := Lib.hid hz; clear hz
  obtain ⟨h0, h00⟩ := h0
  have hmk := mk2
  go_enter Try.func28, Try.ntmps28
  go_wp2_with fail
  refine (HC.out _).mono ?_; rintro e w' ⟨rfl, rfl⟩
  go_wp2_with fail
  refine (HZ.out _).mono ?_; rintro e w' ⟨rfl, rfl⟩
  go_wp2_with fail
  refine (behind_any _ _ ?_ ?_).mono ?_
  · omega
  · omega
  rintro e w' ⟨rfl, rfl⟩
  go_wp2_with fail
  refine (ones2 _).mono ?_; rintro e w' ⟨rfl, rfl⟩
  go_wp2_with fail
  go_ret
  exact ⟨rfl, rfl⟩

theorem mk3 (w : World) : (Instr.makeSlice 25 (.int .i64 3) (.int .i64 3)).run Try.prog w = .ok (.slice (some ⟨w.heap.size, 0, none⟩) 3 3) (w.alloc (.cells #[.int .u8 0, .int .u8 0, .int .u8 0] 5)) := by kernel_rfl
set_option maxHeartbeats 400000 in
theorem put3 (r s : Int) (w : World) (hs : isI s = true) (h1 : 2048 ≤ s) (h2 : s < 65536)
    (hc : ∀ w, Calls Try.prog 43 #[.int .i64 r] w fun e w' => e = .returned (.int .i64 s) ∧ w = w') :
    Calls Try.prog 28 #[.int .i64 r] w fun e w' => e = .returned (.slice (some ⟨w.heap.size, 0, none⟩) 3 3) ∧ w' = w.alloc (.cells #[.int .u8 (224 + s / 4096), .int .u8 (128 + s / 64 % 64), .int .u8 (128 + s % 64)] 5) := by
  have h0 := isI_cases hs
  have hz := fun w => size_any s w
  have ez : szI s = 3 := by simp [szI, hs]; omega
  rw [ez] at hz
  clear ez
  have HS := Lib.hid hs; clear hs
  have HC := Lib.hid hc; clear hc
  have HZ := Lib.hid hz; clear hz
  obtain ⟨h0, h00⟩ := h0
  have hmk := mk3
  go_enter Try.func28, Try.ntmps28
  go_wp2_with fail
  refine (HC.out _).mono ?_; rintro e w' ⟨rfl, rfl⟩
  go_wp2_with fail
  refine (HZ.out _).mono ?_; rintro e w' ⟨rfl, rfl⟩
  go_wp2_with fail
  refine (behind_any _ _ ?_ ?_).mono ?_
  · omega
  · omega
  rintro e w' ⟨rfl, rfl⟩
  go_wp2_with fail
  refine (behind_any _ _ ?_ ?_).mono ?_
  · omega
  · omega
  rintro e w' ⟨rfl, rfl⟩
  go_wp2_with fail
  refine (ones3 _).mono ?_; rintro e w' ⟨rfl, rfl⟩
  go_wp2_with fail
  go_ret
  exact ⟨rfl, by rw [show s / 64 / 64 = s / 4096 by omega]⟩

theorem mk4 (w : World) : (Instr.makeSlice 25 (.int .i64 4) (.int .i64 4)).run Try.prog w = .ok (.slice (some ⟨w.heap.size, 0, none⟩) 4 4) (w.alloc (.cells #[.int .u8 0, .int .u8 0, .int .u8 0, .int .u8 0] 5)) := by kernel_rfl
set_option maxHeartbeats 400000 in
theorem put4 (r s : Int) (w : World) (hs : isI s = true) (h1 : 65536 ≤ s)
    (hc : ∀ w, Calls Try.prog 43 #[.int .i64 r] w fun e w' => e = .returned (.int .i64 s) ∧ w = w') :
    Calls Try.prog 28 #[.int .i64 r] w fun e w' => e = .returned (.slice (some ⟨w.heap.size, 0, none⟩) 4 4) ∧ w' = w.alloc (.cells #[.int .u8 (240 + s / 262144), .int .u8 (128 + s / 4096 % 64), .int .u8 (128 + s / 64 % 64), .int .u8 (128 + s % 64)] 5) := by
  have h0 := isI_cases hs
  have hz := fun w => size_any s w
  have ez : szI s = 4 := by simp [szI, hs]; omega
  rw [ez] at hz
  clear ez
  have HS := Lib.hid hs; clear hs
  have HC := Lib.hid hc; clear hc
  have HZ := Lib.hid hz; clear hz
  obtain ⟨h0, h00⟩ := h0
  have hmk := mk4
  go_enter Try.func28, Try.ntmps28
  go_wp2_with fail
  refine (HC.out _).mono ?_; rintro e w' ⟨rfl, rfl⟩
  go_wp2_with fail
  refine (HZ.out _).mono ?_; rintro e w' ⟨rfl, rfl⟩
  go_wp2_with fail
  refine (behind_any _ _ ?_ ?_).mono ?_
  · omega
  · omega
  rintro e w' ⟨rfl, rfl⟩
  go_wp2_with fail
  refine (behind_any _ _ ?_ ?_).mono ?_
  · omega
  · omega
  rintro e w' ⟨rfl, rfl⟩
  go_wp2_with fail
  refine (behind_any _ _ ?_ ?_).mono ?_
  · omega
  · omega
  rintro e w' ⟨rfl, rfl⟩
  go_wp2_with fail
  refine (ones4 _).mono ?_; rintro e w' ⟨rfl, rfl⟩
  go_wp2_with fail
  go_ret
  exact ⟨rfl, by rw [show s / 64 / 64 / 64 = s / 262144 by omega, show s / 64 / 64 = s / 4096 by omega]⟩

/-- WHAT Put GIVES: a new block that holds the octets of 'sndI r'. -/
def putN (r : Int) : Nat := (putI (sndI r)).length
theorem put_any (r : Int) (w : World) : Calls Try.prog 28 #[.int .i64 r] w fun e w' =>
    e = .returned (.slice (some ⟨w.heap.size, 0, none⟩) (putN r) (putN r)) ∧ w' = w.alloc (.cells ((putI (sndI r)).map (Value.int .u8)).toArray 5) := by
  have hc := fun w => sound_any r w
  have hs := sndI_is r
  unfold putN
  generalize sndI r = s at *
  have h0 := isI_cases hs
  rcases (show s < 128 ∨ (128 ≤ s ∧ s < 2048) ∨ (2048 ≤ s ∧ s < 65536) ∨ 65536 ≤ s by omega) with h1 | ⟨h1, h2⟩ | ⟨h1, h2⟩ | h1
  · have e : putI s = [s] := by unfold putI; rw [if_pos h1]
    rw [e]
    exact put1 r s w hs h1 hc
  · have e : putI s = [192 + s / 64, 128 + s % 64] := by unfold putI; rw [if_neg (by omega), if_pos h2]
    rw [e]
    exact put2 r s w hs h1 h2 hc
  · have e : putI s = [224 + s / 4096, 128 + s / 64 % 64, 128 + s % 64] := by unfold putI; rw [if_neg (by omega), if_neg (by omega), if_pos h2]
    rw [e]
    exact put3 r s w hs h1 h2 hc
  · have e : putI s = [240 + s / 262144, 128 + s / 4096 % 64, 128 + s / 64 % 64, 128 + s % 64] := by unfold putI; rw [if_neg (by omega), if_neg (by omega), if_neg (by omega)]
    rw [e]
    exact put4 r s w hs h1 hc
end Go.Proofs.Ytbhbdhjkicmecaa
/- Words on memory: a slice of whole numbers that reads as a list. -/
namespace Go.Proofs.Ytbhbdhjkicmecaa
open Go Go.RowKit

/-- The slice with address A and n elements reads as xs; where it has an element, it lies in a block that is there. -/
def RowI (k : IntKind) (w : World) (A : Option Addr) (n : Nat) (xs : List Int) : Prop :=
  xs.length = n ∧ (0 < n → ∃ b o, A = some ⟨b, o, none⟩ ∧ b < w.heap.size ∧ ∀ j, j < n → w.cell? ⟨b, o + j, none⟩ = some (.int k (xs.getD j 0)))

theorem below_drewN {B : Nat} {a w : World} (h : Below B a w) (q : Nat) : Below B a (w.drewN q) := ⟨h.os, h.tape, h.output, h.size, h.block⟩

theorem at_new (w : World) (o : Obj) {g : Nat} (hg : g = w.heap.size) : (w.alloc o).heap[g]? = some o := by subst hg; exact heap_alloc_new w o
theorem at_up {w : World} {g : Nat} {o : Obj} (h : w.heap[g]? = some o) (o' : Obj) : (w.alloc o').heap[g]? = some o := by
  have hlt : g < w.heap.size := by
    rcases Nat.lt_or_ge g w.heap.size with hlt | hge
    · exact hlt
    · rw [Array.getElem?_eq_none hge] at h; cases h
  exact (Below.heap_alloc w o' g hlt).trans h

section
variable {k : IntKind} {w w' : World} {A : Option Addr} {n : Nat} {xs : List Int}
theorem RowI.nil_ : RowI k w A 0 [] := ⟨rfl, fun h => absurd h (by omega)⟩
theorem RowI.drewN (h : RowI k w A n xs) (q : Nat) : RowI k (w.drewN q) A n xs := h
theorem RowI.below (h : RowI k w A n xs) {B : Nat} (hb : Below B w w') (hB : w.heap.size ≤ B) : RowI k w' A n xs := by
  refine ⟨h.1, fun hn => ?_⟩
  obtain ⟨b, o, hA, hlt, hc⟩ := h.2 hn
  refine ⟨b, o, hA, Nat.lt_of_lt_of_le hlt hb.size, fun j hj => ?_⟩
  rw [hb.cell (p := ⟨b, o + j, none⟩) (show b < B by omega)]
  exact hc j hj
theorem RowI.alloc (h : RowI k w A n xs) (o : Obj) : RowI k (w.alloc o) A n xs :=
  h.below ((Below.refl w.heap.size w).alloc (Nat.le_refl _) o) (Nat.le_refl _)
theorem RowI.new (k : IntKind) (w : World) (xs : List Int) (t : TypeId) : RowI k (w.alloc (.cells (xs.map (Value.int k)).toArray t)) (some ⟨w.heap.size, 0, none⟩) xs.length xs := by
  refine ⟨rfl, fun _ => ⟨_, _, rfl, by simp, fun j hj => ?_⟩⟩
  simp [List.getElem?_eq_getElem hj]
/-- s[i:j], of a slice that reads as a list. -/
theorem RowI.cut {b o : Nat} (h : RowI k w (some ⟨b, o, none⟩) n xs) {i j : Nat} (hij : i ≤ j) (hj : j ≤ n) : RowI k w (some ⟨b, o + i, none⟩) (j - i) ((xs.drop i).take (j - i)) := by
  have hl := h.1
  refine ⟨by simp; omega, fun hn => ?_⟩
  obtain ⟨b', o', hA, hlt, hc⟩ := h.2 (by omega)
  injection hA with hA
  injection hA with hb ho
  subst hb ho
  refine ⟨_, _, rfl, hlt, fun m hm => ?_⟩
  rw [Nat.add_assoc, hc (i + m) (by omega)]
  simp [List.getD, List.getElem?_drop, hm]
end
end Go.Proofs.Ytbhbdhjkicmecaa
/- string(b), of octets that read as a list. -/
namespace Go.Proofs.Ytbhbdhjkicmecaa
open Go Go.RowKit

/-- string(b), of octets that read as a list. -/
theorem strRow (w : World) (A : Option Addr) (n c : Nat) (xs : List Int) (h : RowI .u8 w A n xs) :
    (convert 25 9 (.slice A n c)).run Try.prog w = .ok (.string (strOfNums xs)) w := by
  rcases Nat.eq_zero_or_pos n with h0 | h0
  · subst h0
    have : xs = [] := List.eq_nil_of_length_eq_zero h.1
    subst this
    rcases A with _ | ⟨b, o, sp⟩
    · exact run_convert_bytes_nil w 25 5 Try.underlying25 Try.underlying5 0 c 9 Try.underlying9
    · rw [run_convert_bytes_string w _ _ _ _ _ _ Try.underlying25 Try.underlying5 Try.underlying9]
      exact run_bytesToString (P := Try.prog) w ⟨b, o, sp⟩ 0 c [] (by simpa using run_loadCells_list (P := Try.prog) w ⟨b, o, sp⟩ [] (fun j v hj => by simp at hj))
  · obtain ⟨b, o, rfl, _, hc⟩ := h.2 h0
    exact run_convert_bytes_arg (P := Try.prog) w 25 5 Try.underlying25 Try.underlying5 b o n c xs h.1 hc 9 Try.underlying9
end Go.Proofs.Ytbhbdhjkicmecaa
/- append onto a slice of the call's own, and what came in as such a list. -/
namespace Go.Proofs.Ytbhbdhjkicmecaa
open Go Go.RowKit
set_option maxRecDepth 20000

theorem info_u8 : (Try.prog.info? 5).map (fun i => (i.zero, i.size, i.bytes)) = some (some (.int .u8 0), 1, 1) := by kernel_rfl
theorem info_int : (Try.prog.info? 3).map (fun i => (i.zero, i.size, i.bytes)) = some (some (.int .i64 0), 1, 8) := by kernel_rfl

/-- The slice that the call owns reads as a list. -/
theorem row_of_own {k : IntKind} {w : World} {base : Nat} {e : TypeId} {v : Value} {n : Nat} {xs : List Int} (h : w.ownsRow base e 1 v n (xs.map (Value.int k))) :
    ∃ A c, v = .slice A n c ∧ RowI k w A n xs ∧ n ≤ c ∧ c ≤ maxLen := by
  obtain ⟨hl, h⟩ := h
  have hl' : xs.length = n := by simpa using hl
  rcases h with ⟨rfl, rfl⟩ | ⟨g, cap, cur, rfl, _, hg, hnc, hcm, hcs, ht⟩
  · have : xs = [] := List.eq_nil_of_length_eq_zero hl'
    subst this
    exact ⟨none, 0, rfl, RowI.nil_, Nat.le_refl _, Nat.zero_le _⟩
  · refine ⟨_, cap, rfl, ⟨hl', fun _ => ⟨g, 0, rfl, ?_, fun j hj => ?_⟩⟩, hnc, hcm⟩
    · exact (Array.getElem?_eq_some_iff.1 hg).1
    · rw [Nat.zero_add, cell_of_row w g j cur e (0, 0) hg]
      have h1 : (cur.toList.take (n * 1))[j]? = (xs.map (Value.int k))[j]? := by rw [ht]
      rw [List.getElem?_take_of_lt (by omega), Array.getElem?_toList] at h1
      rw [h1, List.getElem?_map]
      have hj' : j < xs.length := by omega
      simp [List.getElem?_eq_getElem hj', List.getD]

theorem app_run (k : IntKind) (t e : TypeId) (bytes : Nat) (ht : Try.prog.underlying t = some (.slice e)) (hinfo : (Try.prog.info? e).map (fun i => (i.zero, i.size, i.bytes)) = some (some (.int k 0), 1, bytes))
    (w : World) (base : Nat) (v : Value) (n : Nat) (xs : List Int) (hown : w.ownsRow base e 1 v n (xs.map (Value.int k)))
    (A : Option Addr) (m c : Nat) (ys : List Int) (hr : RowI k w A m ys) (hnil : A = none → m = 0 ∧ c = 0) (hsz : (n + m) * bytes ≤ 140737488355328) (h63 : n + m ≤ maxLen) (hbase : base ≤ w.heap.size) :
    ∃ v' w', (Builtin.append_ #[t, t] t #[v, .slice A m c]).run Try.prog w = .ok v' w' ∧ w'.ownsRow base e 1 v' (n + m) ((xs ++ ys).map (Value.int k)) ∧ w.grownBy w' v.ownBlock := by
  obtain ⟨i0, hi, hz0, hz1, hz2⟩ := info_parts hinfo
  rcases A with _ | ad
  · obtain ⟨rfl, rfl⟩ := hnil rfl
    have hy : ys = [] := List.eq_nil_of_length_eq_zero hr.1
    subst hy
    exact ⟨v, w, run_append_owned_none (P := Try.prog) w base t t e i0 1 ht hi v n _ hown, by simpa using hown, World.grownBy.refl w _⟩
  · have hcells : ∀ j u, (ys.map (Value.int k))[j]? = some u → w.cell? (ad.add j) = some u := by
      intro j u hu
      have hj : j < ys.length := by
        rcases Nat.lt_or_ge j ys.length with h | h
        · exact h
        · rw [List.getElem?_eq_none (by simpa using h)] at hu; cases hu
      obtain ⟨b, o, hA, _, hc⟩ := hr.2 (by have := hr.1; omega)
      injection hA with hA
      subst hA
      have hadd : (⟨b, o, none⟩ : Addr).add j = ⟨b, o + j, none⟩ := by unfold Addr.add; split <;> simp_all
      rw [hadd, hc j (by have := hr.1; omega)]
      rw [List.getElem?_map, List.getElem?_eq_getElem hj] at hu
      simp [List.getD, List.getElem?_eq_getElem hj]
      simpa using hu
    obtain ⟨v', w', h1, h2, h3, _⟩ := run_append_own (P := Try.prog) w base t t e i0 (.int k 0) 1 bytes ht hi hz0 hz1 hz2 rfl (by decide) v n _ hown ad m c (ys.map (Value.int k)) (by simp [hr.1]) hcells (by intro u hu; obtain ⟨x, _, rfl⟩ := List.mem_map.1 hu; rfl) h63 hsz hbase
    exact ⟨v', w', h1, by rw [List.map_append]; exact h2, h3⟩

/-- What the law's shell says of a slice that came in, in my words. -/
theorem rowI_of_row {k : IntKind} {w : World} {a : Option Addr} {len cap : Nat} {zs : List Int}
    (h : (a = none ∧ len = 0 ∧ cap = 0 ∧ zs = []) ∨
      ∃ x, a = some x ∧ len ≤ cap ∧ cap ≤ maxLen ∧ zs.length = cap ∧ (∀ i, i < zs.length → w.cell? (x.add i) = some (.int k (zs.getD i 0))) ∧ ∀ n ∈ zs, (Lit.int k n).wf = true) :
    RowI k w a len (zs.take len) ∧ len ≤ cap ∧ cap ≤ maxLen ∧ (a = none → len = 0 ∧ cap = 0) ∧ ∀ c ∈ zs.take len, (Lit.int k c).wf = true := by
  rcases h with ⟨rfl, rfl, rfl, rfl⟩ | ⟨x, rfl, hl, hm, hz, hc, hw⟩
  · exact ⟨RowI.nil_, Nat.le_refl _, Nat.zero_le _, fun _ => ⟨rfl, rfl⟩, by simp⟩
  · refine ⟨⟨by rw [List.length_take]; omega, fun hn => ?_⟩, hl, hm, fun h => (by cases h), fun c hc => hw c (List.mem_of_mem_take hc)⟩
    obtain ⟨b, off, spot⟩ := x
    have h0 := hc 0 (by omega)
    have hspot : spot = none := by simpa [Addr.add] using World.cell?_spot h0
    subst hspot
    refine ⟨b, off, rfl, ?_, fun j hj => ?_⟩
    · exact World.block_lt_of_cell? w (⟨b, off, none⟩ : Addr) (by simpa [Addr.add] using h0)
    · have hadd : (⟨b, off, none⟩ : Addr).add j = ⟨b, off + j, none⟩ := by unfold Addr.add; split <;> simp_all
      have := hc j (by omega)
      rw [hadd] at this
      rw [this]
      simp [List.getD, hj]
theorem byte_of_wf {c : Int} (h : (Lit.int .u8 c).wf = true) : 0 ≤ c ∧ c < 256 := by
  simp [Lit.wf, IntKind.min, IntKind.max, IntKind.signed, IntKind.bits] at h
  exact ⟨by omega, by omega⟩

/-- append, by what its run is known to give. -/
theorem wpList_append_run {P : Program} {w : World} {ops : Array Oper} {rest : List Oper} {o : Oper} {a : Act} {Q : Exit → Act → World → Prop} (hgd : o.guard = none) (s x : Operand) (t : TypeId)
    (ho : o.op = .call { callee := .builtin .append, args := #[s, x], argTypes := #[t, t] }) (hty : o.type = t)
    (v y v' : Value) (w' : World) (hs : a.eval s = v) (hx : a.eval x = y) (hrun : (Builtin.append_ #[t, t] t #[v, y]).run P w = .ok v' w')
    (h : wpList P ops Q rest (a.put o.dst v') w') : wpList P ops Q (o :: rest) a w := by
  subst hty
  refine wpList_plain hgd fun K hK => ?_
  unfold Oper.wp
  simp [execOp, ho, resolve, invoke, builtin, hs, hx, hrun, Result.andThen]
  exact hK _ _ h
end Go.Proofs.Ytbhbdhjkicmecaa
