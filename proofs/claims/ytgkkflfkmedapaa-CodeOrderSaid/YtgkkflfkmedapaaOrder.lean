/- The document's codes are in the order of their octets: the walk of CodeOrder. -/
import Derived.Test.YtgkkflfkmedapaaAwake
import Derived.WalkLawsBesides
import Derived.Deep.RegionHeld
namespace Go.Proofs.Ytgkkflfkmedapaa
open Go Go.RowKit

set_option maxHeartbeats 2000000 in
theorem ord_lt (a b : Int) (na nb : Nat) (ca cb : Array Value) (sa sb : ByteArray) (W : World) (hab : a < b) (ha : isI a = true) (hb : isI b = true)
    (h1 : Op.bytesLess sa.toList sb.toList = true)
    (pa : ∀ w, Calls Try.prog 10 #[.int .i64 a] w fun e w' => e = .returned (.slice (some ⟨w.heap.size, 0, none⟩) na na) ∧ w' = w.alloc (.cells ca 5))
    (fa : ∀ (w : World) (g : Nat), w.heap[g]? = some (.cells ca 5) → (convert 22 9 (.slice (some ⟨g, 0, none⟩) na na)).run Try.prog w = .ok (.string sa) w)
    (pb : ∀ w, Calls Try.prog 10 #[.int .i64 b] w fun e w' => e = .returned (.slice (some ⟨w.heap.size, 0, none⟩) nb nb) ∧ w' = w.alloc (.cells cb 5))
    (fb : ∀ (w : World) (g : Nat), w.heap[g]? = some (.cells cb 5) → (convert 22 9 (.slice (some ⟨g, 0, none⟩) nb nb)).run Try.prog w = .ok (.string sb) w)
    (h2 : (sa.toList == sb.toList) = false) :
    Calls Try.prog 7 #[.int .i64 a, .int .i64 b] W fun e w' => e = .returned (.bool true) ∧ Below W.heap.size W w' := by
  have PA := Lib.hid pa; clear pa
  have FA := Lib.hid fa; clear fa
  have ia := fun w => refIs_any a w
  rw [ha] at ia
  clear ha
  have IA := Lib.hid ia; clear ia
  have PB := Lib.hid pb; clear pb
  have FB := Lib.hid fb; clear fb
  have ib := fun w => refIs_any b w
  rw [hb] at ib
  clear hb
  have IB := Lib.hid ib; clear ib
  have hd : decide (a < b) = true := by simp; omega
  have he : (a == b) = false := by simp; omega
  go_enter Try.func7, Try.ntmps7
  go_wp2_with fail
  refine (awake_any _).mono ?_; rintro e w1 ⟨rfl, hbel⟩
  go_wp2_with fail
  refine (IA.out _).mono ?_; rintro e w' ⟨rfl, rfl⟩
  go_wp2_with fail
  refine (IB.out _).mono ?_; rintro e w' ⟨rfl, rfl⟩
  go_wp2_with fail
  have c1 := FA.out (w1.alloc (.cells ca 5)).drew w1.heap.size (at_new _ _ rfl)
  have c2 := FA.out ((w1.alloc (.cells ca 5)).alloc (.cells cb 5)).drew w1.heap.size (at_up (at_new _ _ rfl) _)
  have c3 := FB.out ((w1.alloc (.cells ca 5)).alloc (.cells cb 5)).drew (w1.heap.size + 1) (at_new _ _ (by simp))
  have c4 := FA.out (((w1.alloc (.cells ca 5)).alloc (.cells cb 5)).alloc (.cells ca 5)).drew (w1.heap.size + 1 + 1) (at_new _ _ (by simp))
  have c5 := FA.out ((((w1.alloc (.cells ca 5)).alloc (.cells cb 5)).alloc (.cells ca 5)).alloc (.cells cb 5)).drew (w1.heap.size + 1 + 1) (at_up (at_new _ _ (by simp)) _)
  have c6 := FB.out ((((w1.alloc (.cells ca 5)).alloc (.cells cb 5)).alloc (.cells ca 5)).alloc (.cells cb 5)).drew (w1.heap.size + 1 + 1 + 1) (at_new _ _ (by simp))
  go_region_held (fun _ => True) (trivial) (first
    | (go_at_call_of 10 a; refine (PA.out _).mono ?_; rintro e w' ⟨rfl, rfl⟩)
    | (go_at_call_of 10 b; refine (PB.out _).mono ?_; rintro e w' ⟨rfl, rfl⟩))
  all_goals
    go_wp2
    go_ret
    exact ⟨rfl, hbel.trans (Below.mono (B := w1.heap.size) (by go_grown) hbel.size)⟩

set_option maxHeartbeats 2000000 in
theorem ord_gt (a b : Int) (na nb : Nat) (ca cb : Array Value) (sa sb : ByteArray) (W : World) (hab : b < a) (ha : isI a = true) (hb : isI b = true)
    (h1 : Op.bytesLess sa.toList sb.toList = false)
    (pa : ∀ w, Calls Try.prog 10 #[.int .i64 a] w fun e w' => e = .returned (.slice (some ⟨w.heap.size, 0, none⟩) na na) ∧ w' = w.alloc (.cells ca 5))
    (fa : ∀ (w : World) (g : Nat), w.heap[g]? = some (.cells ca 5) → (convert 22 9 (.slice (some ⟨g, 0, none⟩) na na)).run Try.prog w = .ok (.string sa) w)
    (pb : ∀ w, Calls Try.prog 10 #[.int .i64 b] w fun e w' => e = .returned (.slice (some ⟨w.heap.size, 0, none⟩) nb nb) ∧ w' = w.alloc (.cells cb 5))
    (fb : ∀ (w : World) (g : Nat), w.heap[g]? = some (.cells cb 5) → (convert 22 9 (.slice (some ⟨g, 0, none⟩) nb nb)).run Try.prog w = .ok (.string sb) w)
    (h2 : (sa.toList == sb.toList) = false) :
    Calls Try.prog 7 #[.int .i64 a, .int .i64 b] W fun e w' => e = .returned (.bool true) ∧ Below W.heap.size W w' := by
  have PA := Lib.hid pa; clear pa
  have FA := Lib.hid fa; clear fa
  have ia := fun w => refIs_any a w
  rw [ha] at ia
  clear ha
  have IA := Lib.hid ia; clear ia
  have PB := Lib.hid pb; clear pb
  have FB := Lib.hid fb; clear fb
  have ib := fun w => refIs_any b w
  rw [hb] at ib
  clear hb
  have IB := Lib.hid ib; clear ib
  have hd : decide (a < b) = false := by simp; omega
  have he : (a == b) = false := by simp; omega
  go_enter Try.func7, Try.ntmps7
  go_wp2_with fail
  refine (awake_any _).mono ?_; rintro e w1 ⟨rfl, hbel⟩
  go_wp2_with fail
  refine (IA.out _).mono ?_; rintro e w' ⟨rfl, rfl⟩
  go_wp2_with fail
  refine (IB.out _).mono ?_; rintro e w' ⟨rfl, rfl⟩
  go_wp2_with fail
  have c1 := FA.out (w1.alloc (.cells ca 5)).drew w1.heap.size (at_new _ _ rfl)
  have c2 := FA.out ((w1.alloc (.cells ca 5)).alloc (.cells cb 5)).drew w1.heap.size (at_up (at_new _ _ rfl) _)
  have c3 := FB.out ((w1.alloc (.cells ca 5)).alloc (.cells cb 5)).drew (w1.heap.size + 1) (at_new _ _ (by simp))
  have c4 := FA.out (((w1.alloc (.cells ca 5)).alloc (.cells cb 5)).alloc (.cells ca 5)).drew (w1.heap.size + 1 + 1) (at_new _ _ (by simp))
  have c5 := FA.out ((((w1.alloc (.cells ca 5)).alloc (.cells cb 5)).alloc (.cells ca 5)).alloc (.cells cb 5)).drew (w1.heap.size + 1 + 1) (at_up (at_new _ _ (by simp)) _)
  have c6 := FB.out ((((w1.alloc (.cells ca 5)).alloc (.cells cb 5)).alloc (.cells ca 5)).alloc (.cells cb 5)).drew (w1.heap.size + 1 + 1 + 1) (at_new _ _ (by simp))
  go_region_held (fun _ => True) (trivial) (first
    | (go_at_call_of 10 a; refine (PA.out _).mono ?_; rintro e w' ⟨rfl, rfl⟩)
    | (go_at_call_of 10 b; refine (PB.out _).mono ?_; rintro e w' ⟨rfl, rfl⟩))
  all_goals
    go_wp2
    go_ret
    exact ⟨rfl, hbel.trans (Below.mono (B := w1.heap.size) (by go_grown) hbel.size)⟩

set_option maxHeartbeats 2000000 in
theorem ord_eq (a : Int) (na : Nat) (ca : Array Value) (sa : ByteArray) (W : World) (ha : isI a = true)
    (h1 : Op.bytesLess sa.toList sa.toList = false)
    (pa : ∀ w, Calls Try.prog 10 #[.int .i64 a] w fun e w' => e = .returned (.slice (some ⟨w.heap.size, 0, none⟩) na na) ∧ w' = w.alloc (.cells ca 5))
    (fa : ∀ (w : World) (g : Nat), w.heap[g]? = some (.cells ca 5) → (convert 22 9 (.slice (some ⟨g, 0, none⟩) na na)).run Try.prog w = .ok (.string sa) w)
    :
    Calls Try.prog 7 #[.int .i64 a, .int .i64 a] W fun e w' => e = .returned (.bool true) ∧ Below W.heap.size W w' := by
  have PA := Lib.hid pa; clear pa
  have FA := Lib.hid fa; clear fa
  have ia := fun w => refIs_any a w
  rw [ha] at ia
  clear ha
  have IA := Lib.hid ia; clear ia
  have hd : decide (a < a) = false := by simp
  have he : (a == a) = true := by simp
  go_enter Try.func7, Try.ntmps7
  go_wp2_with fail
  refine (awake_any _).mono ?_; rintro e w1 ⟨rfl, hbel⟩
  go_wp2_with fail
  refine (IA.out _).mono ?_; rintro e w' ⟨rfl, rfl⟩
  go_wp2_with fail
  refine (IA.out _).mono ?_; rintro e w' ⟨rfl, rfl⟩
  go_wp2_with fail
  have c1 := FA.out (w1.alloc (.cells ca 5)).drew w1.heap.size (at_new _ _ rfl)
  have c2 := FA.out ((w1.alloc (.cells ca 5)).alloc (.cells ca 5)).drew w1.heap.size (at_up (at_new _ _ rfl) _)
  have c3 := FA.out ((w1.alloc (.cells ca 5)).alloc (.cells ca 5)).drew (w1.heap.size + 1) (at_new _ _ (by simp))
  have c4 := FA.out (((w1.alloc (.cells ca 5)).alloc (.cells ca 5)).alloc (.cells ca 5)).drew (w1.heap.size + 1 + 1) (at_new _ _ (by simp))
  have c5 := FA.out ((((w1.alloc (.cells ca 5)).alloc (.cells ca 5)).alloc (.cells ca 5)).alloc (.cells ca 5)).drew (w1.heap.size + 1 + 1) (at_up (at_new _ _ (by simp)) _)
  have c6 := FA.out ((((w1.alloc (.cells ca 5)).alloc (.cells ca 5)).alloc (.cells ca 5)).alloc (.cells ca 5)).drew (w1.heap.size + 1 + 1 + 1) (at_new _ _ (by simp))
  go_region_held (fun _ => True) (trivial) (first
    | (go_at_call_of 10 a; refine (PA.out _).mono ?_; rintro e w' ⟨rfl, rfl⟩))
  all_goals
    go_wp2
    go_ret
    exact ⟨rfl, hbel.trans (Below.mono (B := w1.heap.size) (by go_grown) hbel.size)⟩
end Go.Proofs.Ytgkkflfkmedapaa
