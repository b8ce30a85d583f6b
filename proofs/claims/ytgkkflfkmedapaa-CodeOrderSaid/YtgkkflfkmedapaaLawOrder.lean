/- CodeOrder: the octets of code points are in the order of the code points. -/
import Derived.Test.YtgkkflfkmedapaaAwake
import Derived.Test.YtgkkflfkmedapaaRefGet
import Derived.Laws.Rows
namespace Go.Proofs.Ytgkkflfkmedapaa
open Go Go.RowKit

/-- Which list of numbers is ahead. -/
def lessI : List Int → List Int → Bool
  | _, [] => false
  | [], _ :: _ => true
  | x :: s, y :: t => decide (x < y) || (decide (x = y) && lessI s t)

theorem bytesLess_nums : ∀ (s t : List Int), (∀ c ∈ s, 0 ≤ c ∧ c < 256) → (∀ c ∈ t, 0 ≤ c ∧ c < 256) →
    Op.bytesLess (s.map fun n => UInt8.ofNat n.toNat) (t.map fun n => UInt8.ofNat n.toNat) = lessI s t
  | s, [], _, _ => by cases s <;> rfl
  | [], _ :: _, _, _ => rfl
  | x :: s, y :: t, hs, ht => by
    have hx := hs x (by simp)
    have hy := ht y (by simp)
    have ih := bytesLess_nums s t (fun c hc => hs c (List.mem_cons_of_mem _ hc)) (fun c hc => ht c (List.mem_cons_of_mem _ hc))
    simp only [List.map_cons, Op.bytesLess, lessI, ih]
    have e1 : (UInt8.ofNat x.toNat < UInt8.ofNat y.toNat) ↔ x < y := by
      rw [UInt8.lt_iff_toNat_lt]; simp; omega
    have e2 : (UInt8.ofNat x.toNat = UInt8.ofNat y.toNat) ↔ x = y := by
      rw [← UInt8.toNat_inj]; simp; omega
    congr 1
    · exact decide_eq_decide.2 e1
    · congr 1
      rw [Bool.eq_iff_iff, beq_iff_eq, decide_eq_true_iff]
      exact e2

theorem lessI_put {a b : Int} (ha : isI a = true) (hb : isI b = true) (hab : a < b) : lessI (putI a) (putI b) = true ∧ lessI (putI b) (putI a) = false := by
  have h0 := isI_cases ha
  have h1 := isI_cases hb
  unfold putI
  (repeat' split) <;> (simp [lessI]; omega)
theorem lessI_self : ∀ l : List Int, lessI l l = false
  | [] => rfl
  | x :: t => by simp [lessI, lessI_self t]

theorem strOfNums_toList (l : List Int) : (strOfNums l).toList = l.map fun n => UInt8.ofNat n.toNat := by
  rw [ByteArray.toList_eq, strOfNums_data]

theorem order_no1 (a b : Int) (W : World) (ha : isI a = false) :
    Calls Try.prog 7 #[.int .i64 a, .int .i64 b] W fun e w' => e = .returned (.bool true) ∧ Below W.heap.size W w' := by
  have ia := fun w => refIs_any a w
  rw [ha] at ia
  clear ha
  have IA := Lib.hid ia; clear ia
  go_enter Try.func7, Try.ntmps7
  go_wp2_with fail
  refine (awake_any _).mono ?_; rintro e w1 ⟨rfl, hbel⟩
  go_wp2_with fail
  refine (IA.out _).mono ?_; rintro e w' ⟨rfl, rfl⟩
  go_wp2_with fail
  refine (awake_any _).mono ?_; rintro e w2 ⟨rfl, hbel2⟩
  go_wp2_with fail
  go_ret
  exact ⟨rfl, hbel.trans (Below.mono hbel2 hbel.size)⟩
theorem order_no2 (a b : Int) (W : World) (ha : isI a = true) (hb : isI b = false) :
    Calls Try.prog 7 #[.int .i64 a, .int .i64 b] W fun e w' => e = .returned (.bool true) ∧ Below W.heap.size W w' := by
  have ia := fun w => refIs_any a w
  rw [ha] at ia
  have ib := fun w => refIs_any b w
  rw [hb] at ib
  clear ha hb
  have IA := Lib.hid ia; clear ia
  have IB := Lib.hid ib; clear ib
  go_enter Try.func7, Try.ntmps7
  go_wp2_with fail
  refine (awake_any _).mono ?_; rintro e w1 ⟨rfl, hbel⟩
  go_wp2_with fail
  refine (IA.out _).mono ?_; rintro e w' ⟨rfl, rfl⟩
  go_wp2_with fail
  refine (IB.out _).mono ?_; rintro e w' ⟨rfl, rfl⟩
  go_wp2_with fail
  refine (awake_any _).mono ?_; rintro e w2 ⟨rfl, hbel2⟩
  go_wp2_with fail
  go_ret
  exact ⟨rfl, hbel.trans (Below.mono hbel2 hbel.size)⟩

theorem RowI.at_ {k : IntKind} {w : World} {xs : List Int} {g : Nat} {t : TypeId} (h : w.heap[g]? = some (.cells (xs.map (Value.int k)).toArray t)) : RowI k w (some ⟨g, 0, none⟩) xs.length xs := by
  have hlt : g < w.heap.size := by
    rcases Nat.lt_or_ge g w.heap.size with hlt | hge
    · exact hlt
    · rw [Array.getElem?_eq_none hge] at h; cases h
  refine ⟨rfl, fun _ => ⟨_, _, rfl, hlt, fun j hj => ?_⟩⟩
  rw [cell_of_row w g _ _ _ _ h]
  simp [List.getElem?_eq_getElem hj]
/-- Put of a code point, as the walk of the law wants it. -/
theorem put_of (a : Int) (ha : isI a = true) : ∀ w, Calls Try.prog 10 #[.int .i64 a] w fun e w' =>
    e = .returned (.slice (some ⟨w.heap.size, 0, none⟩) (putI a).length (putI a).length) ∧ w' = w.alloc (.cells ((putI a).map (Value.int .u8)).toArray 5) := by
  intro w
  have h := put_any a w
  unfold putN at h
  rw [show sndI a = a by simp [sndI, ha]] at h
  exact h
theorem cvt_of (l : List Int) (w : World) (g : Nat) (h : w.heap[g]? = some (.cells (l.map (Value.int .u8)).toArray 5)) :
    (convert 22 9 (.slice (some ⟨g, 0, none⟩) l.length l.length)).run Try.prog w = .ok (.string (strOfNums l)) w :=
  strRow w _ _ _ l (RowI.at_ h)
end Go.Proofs.Ytgkkflfkmedapaa
