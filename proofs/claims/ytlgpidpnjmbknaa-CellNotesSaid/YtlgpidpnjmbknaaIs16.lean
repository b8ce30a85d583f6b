/- errors.Is of a wrapped cause (a struct of a cause and a note) and of a cause. -/
import Derived.Test.YtlgpidpnjmbknaaRec
import Derived.LaidEql
import Derived.Stop.Asserts
import Derived.RowKitTokens
namespace Go.Proofs.Ytlgpidpnjmbknaa
open Go Go.RowKit Go.Extern.Stop Go.Stop Go.Extern
set_option linter.unusedVariables false
set_option maxRecDepth 20000
theorem isTypeOf (v : Value) (w : World) : (ReflectliteType.typeOf #[.iface 30 v]).run Try.prog w = .ok (.iface 50 (.agg #[.pointer (some ⟨3, 30, none⟩)])) w := by kernel_rfl
theorem isComparable (w : World) : ((ReflectliteType.method fun t => do Rtype.noPackHeld "Comparable" t; (fun a => Value.bool a.comparable) <$> typeInfo t) #[.agg #[.pointer (some ⟨3, 30, none⟩)]]).run Try.prog w = .ok (.bool true) w := by kernel_rfl
theorem isMethodComparable (v : Value) (w : World) : (Go.method 186 50 v "Comparable").run Try.prog w = .ok (53, v) w := by kernel_rfl
theorem noIsE (v : Value) (xT : TypeId) (w : World) : (Instr.typeAssert (.iface 30 v) xT 52 true).run Try.prog w = .ok (.tuple #[.nilIface, .bool false]) w := run_typeAssert_lacksB Try.underlying52 (by kernel_rfl) (by kernel_rfl) v xT w
theorem noUnwrapE (v : Value) (xT : TypeId) (w : World) : (Instr.typeAssert (.iface 30 v) xT 55 true).run Try.prog w = .ok (.tuple #[.nilIface, .bool false]) w := run_typeAssert_lacksB Try.underlying55 (by kernel_rfl) (by kernel_rfl) v xT w
theorem noUnwrapsE (v : Value) (xT : TypeId) (w : World) : (Instr.typeAssert (.iface 30 v) xT 57 true).run Try.prog w = .ok (.tuple #[.nilIface, .bool false]) w := run_typeAssert_lacksB Try.underlying57 (by kernel_rfl) (by kernel_rfl) v xT w
theorem noIsN (v : Value) (xT : TypeId) (w : World) : (Instr.typeAssert (.iface 44 v) xT 52 true).run Try.prog w = .ok (.tuple #[.nilIface, .bool false]) w := run_typeAssert_lacksB Try.underlying52 (by kernel_rfl) (by kernel_rfl) v xT w
theorem hasUnwrapN (v : Value) (xT : TypeId) (w : World) : (Instr.typeAssert (.iface 44 v) xT 55 true).run Try.prog w = .ok (.tuple #[.iface 44 v, .bool true]) w := run_typeAssert_hasB Try.underlying55 (by kernel_rfl) v xT w
theorem methodUnwrap (v : Value) (w : World) : (Go.method 186 44 v "Unwrap").run Try.prog w = .ok (49, v) w := by kernel_rfl
theorem neErr (p : Value) (c : Int) (w : World) : (binOp .eql 37 (.iface 44 p) (.iface 30 (.int .i64 c))).run Try.prog w = .ok (.bool false) w := run_eql_iface_types _ _ _ _ Try.underlying37 (by decide) w
theorem errComp : (Try.prog.info? 30).map (·.comparable) = some true := by kernel_rfl
theorem eqEE (c d : Int) (w : World) : (binOp .eql 37 (.iface 30 (.int .i64 c)) (.iface 30 (.int .i64 d))).run Try.prog w = .ok (.bool (c == d)) w := by
  obtain ⟨i, hi, hcmp⟩ := Option.map_eq_some_iff.1 errComp
  have h : ∀ k : Nat, (Op.equalIn (k + 2) 37 (.iface 30 (.int .i64 c)) (.iface 30 (.int .i64 d))).run Try.prog w = .ok (c == d) w := fun k => by
    simp [Op.equalIn, run_underlying Try.underlying37, run_underlying Try.underlying30, typeInfo, hi, hcmp]
  simp only [binOp]
  simp [Op.equal, Op.maxDepth, h 9998]
/-- A wrapped cause. -/
@[reducible] def fltV (c : Int) (s : ByteArray) : Value := .agg #[.int .i64 c, .string s]
theorem wrap_any (c : Int) (s : ByteArray) (w : World) (hc : c ≠ 0) : Calls Try.prog 14 #[.int .i64 c, .string s] w fun e w' => e = .returned (.iface 44 (.agg #[.int .i64 c, .string s])) ∧ w = w' := by
  have hcb : (c == 0) = false := by simpa using hc
  go_enter Try.func14, Try.ntmps14
  go_wp2_with fail
  go_ret
  exact ⟨rfl, rfl⟩
theorem nunwrap_any (c : Int) (s : ByteArray) (w : World) : Calls Try.prog 49 #[.agg #[.int .i64 c, .string s]] w fun e w' => e = .returned (.iface 30 (.int .i64 c)) ∧ Below w.heap.size w w' := by
  go_enter Try.func49, Try.ntmps49
  go_wp2_with fail
  go_ret
  exact ⟨rfl, (Below.refl _ _).alloc (Nat.le_refl _) _⟩
set_option maxHeartbeats 4000000 in
theorem is_noted (c d : Int) (s : ByteArray) (w : World) :
    Calls Try.prog 15 #[.iface 44 (.agg #[.int .i64 c, .string s]), .iface 30 (.int .i64 d)] w fun e w' => e = .returned (.bool (c == d)) ∧ Below w.heap.size w w' := by
  have h16 := @run_callFunc_extern Try.prog 16 _ ReflectliteType.typeOf Try.func16 (by kernel_rfl) (by kernel_rfl) (by kernel_rfl) (by kernel_rfl)
  have h53 := @run_callFunc_extern Try.prog 53 _ (ReflectliteType.method fun t => do Rtype.noPackHeld "Comparable" t; pure (.bool (← typeInfo t).comparable)) Try.func53 (by kernel_rfl) (by kernel_rfl) (by kernel_rfl) (by kernel_rfl)
  have tT := isTypeOf
  have cT := isComparable
  have mR := isMethodComparable
  have n1 := noIsN
  have n2 := hasUnwrapN
  have n3 := methodUnwrap
  have n4 := noIsE
  have n5 := noUnwrapE
  have n6 := noUnwrapsE
  have ne := neErr
  have HU := Lib.hid (nunwrap_any c s w)
  have e2 := eqEE c d
  obtain ⟨q, hq⟩ : ∃ q, q = (c == d) := ⟨_, rfl⟩
  rw [← hq] at e2 ⊢
  clear hq
  rcases q with _ | _
  · go_enter Try.func15, Try.ntmps15
    go_wp2
    refine wp_loop_rounds 2 ?_
    rw [rounds_succ]
    go_wp2_with (go_at_call 49; refine HU.out.mono ?_; rintro e w1 ⟨rfl, hb⟩; have HB := Lib.hid hb; clear hb)
    rw [rounds_succ]
    go_wp2_with fail
    go_ret
    exact ⟨rfl, HB.out⟩
  · go_enter Try.func15, Try.ntmps15
    go_wp2
    refine wp_loop_rounds 2 ?_
    rw [rounds_succ]
    go_wp2_with (go_at_call 49; refine HU.out.mono ?_; rintro e w1 ⟨rfl, hb⟩; have HB := Lib.hid hb; clear hb)
    rw [rounds_succ]
    go_wp2_with fail
    go_ret
    exact ⟨rfl, HB.out⟩
end Go.Proofs.Ytlgpidpnjmbknaa
