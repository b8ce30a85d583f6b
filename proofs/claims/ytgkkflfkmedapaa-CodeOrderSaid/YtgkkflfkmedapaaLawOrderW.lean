/- CodeOrder, whole: for whatever two numbers. -/
import Derived.Test.YtgkkflfkmedapaaOrder
import Derived.Test.YtgkkflfkmedapaaLawOrder
namespace Go.Proofs.Ytgkkflfkmedapaa
open Go Go.RowKit

theorem lawOrder (a b : Int) (W : World) :
    Calls Try.prog 7 #[.int .i64 a, .int .i64 b] W fun e w' => e = .returned (.bool true) ∧ Below W.heap.size W w' := by
  cases ha : isI a with
  | false => exact order_no1 a b W ha
  | true =>
    cases hb : isI b with
    | false => exact order_no2 a b W ha hb
    | true =>
      have ba := putI_byte a ha
      have bb := putI_byte b hb
      rcases Int.lt_trichotomy a b with h | h | h
      · have hl := lessI_put ha hb h
        refine ord_lt a b _ _ _ _ (strOfNums (putI a)) (strOfNums (putI b)) W h ha hb ?_ (put_of a ha) (fun w g hg => cvt_of _ w g hg) (put_of b hb) (fun w g hg => cvt_of _ w g hg) ?_
        · rw [strOfNums_toList, strOfNums_toList, bytesLess_nums _ _ ba bb]; exact hl.1
        · rw [str_cmp _ _ ba (nums_strOfNums _ bb), decide_eq_false]
          intro e
          rw [e, lessI_self] at hl
          exact absurd hl.1 (by simp)
      · subst h
        refine ord_eq a _ _ (strOfNums (putI a)) W ha ?_ (put_of a ha) (fun w g hg => cvt_of _ w g hg)
        rw [strOfNums_toList, bytesLess_nums _ _ ba ba, lessI_self]
      · have hl := lessI_put hb ha h
        refine ord_gt a b _ _ _ _ (strOfNums (putI a)) (strOfNums (putI b)) W h ha hb ?_ (put_of a ha) (fun w g hg => cvt_of _ w g hg) (put_of b hb) (fun w g hg => cvt_of _ w g hg) ?_
        · rw [strOfNums_toList, strOfNums_toList, bytesLess_nums _ _ ba bb]; exact hl.2
        · rw [str_cmp _ _ ba (nums_strOfNums _ bb), decide_eq_false]
          intro e
          rw [e, lessI_self] at hl
          exact absurd hl.1 (by simp)
end Go.Proofs.Ytgkkflfkmedapaa
