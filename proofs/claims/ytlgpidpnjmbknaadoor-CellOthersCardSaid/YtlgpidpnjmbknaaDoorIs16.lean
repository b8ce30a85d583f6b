/- errors.Is of a wrapped cause (a struct of a cause and a note) and of a cause. -/
import Derived.Test.YtlgpidpnjmbknaaDoorRec
import Derived.LaidEql
import Derived.Stop.Asserts
import Derived.RowKitTokens
namespace Go.Proofs.YtlgpidpnjmbknaaDoor
open Go Go.RowKit Go.Extern.Stop Go.Stop Go.Extern
set_option linter.unusedVariables false
set_option maxRecDepth 20000
theorem isTypeOf (v : Value) (w : World) : (ReflectliteType.typeOf #[.iface 22 v]).run Tryd.prog w = .ok (.iface 51 (.agg #[.pointer (some ⟨1, 22, none⟩)])) w := by kernel_rfl
theorem isComparable (w : World) : ((ReflectliteType.method fun t => do Rtype.noPackHeld "Comparable" t; (fun a => Value.bool a.comparable) <$> typeInfo t) #[.agg #[.pointer (some ⟨1, 22, none⟩)]]).run Tryd.prog w = .ok (.bool true) w := by kernel_rfl
theorem isMethodComparable (v : Value) (w : World) : (Go.method 186 51 v "Comparable").run Tryd.prog w = .ok (47, v) w := by kernel_rfl
theorem noIsE (v : Value) (xT : TypeId) (w : World) : (Instr.typeAssert (.iface 22 v) xT 53 true).run Tryd.prog w = .ok (.tuple #[.nilIface, .bool false]) w := run_typeAssert_lacksB Tryd.underlying53 (by kernel_rfl) (by kernel_rfl) v xT w
theorem noUnwrapE (v : Value) (xT : TypeId) (w : World) : (Instr.typeAssert (.iface 22 v) xT 56 true).run Tryd.prog w = .ok (.tuple #[.nilIface, .bool false]) w := run_typeAssert_lacksB Tryd.underlying56 (by kernel_rfl) (by kernel_rfl) v xT w
theorem noUnwrapsE (v : Value) (xT : TypeId) (w : World) : (Instr.typeAssert (.iface 22 v) xT 58 true).run Tryd.prog w = .ok (.tuple #[.nilIface, .bool false]) w := run_typeAssert_lacksB Tryd.underlying58 (by kernel_rfl) (by kernel_rfl) v xT w
theorem noIsN (v : Value) (xT : TypeId) (w : World) : (Instr.typeAssert (.iface 37 v) xT 53 true).run Tryd.prog w = .ok (.tuple #[.nilIface, .bool false]) w := run_typeAssert_lacksB Tryd.underlying53 (by kernel_rfl) (by kernel_rfl) v xT w
theorem hasUnwrapN (v : Value) (xT : TypeId) (w : World) : (Instr.typeAssert (.iface 37 v) xT 56 true).run Tryd.prog w = .ok (.tuple #[.iface 37 v, .bool true]) w := run_typeAssert_hasB Tryd.underlying56 (by kernel_rfl) v xT w
theorem methodUnwrap (v : Value) (w : World) : (Go.method 186 37 v "Unwrap").run Tryd.prog w = .ok (43, v) w := by kernel_rfl
theorem neErr (p : Value) (c : Int) (w : World) : (binOp .eql 27 (.iface 37 p) (.iface 22 (.int .i64 c))).run Tryd.prog w = .ok (.bool false) w := run_eql_iface_types _ _ _ _ Tryd.underlying27 (by decide) w
theorem errComp : (Tryd.prog.info? 22).map (·.comparable) = some true := by kernel_rfl
theorem eqEE (c d : Int) (w : World) : (binOp .eql 27 (.iface 22 (.int .i64 c)) (.iface 22 (.int .i64 d))).run Tryd.prog w = .ok (.bool (c == d)) w := by
  obtain ⟨i, hi, hcmp⟩ := Option.map_eq_some_iff.1 errComp
  have h : ∀ k : Nat, (Op.equalIn (k + 2) 27 (.iface 22 (.int .i64 c)) (.iface 22 (.int .i64 d))).run Tryd.prog w = .ok (c == d) w := fun k => by
    simp [Op.equalIn, run_underlying Tryd.underlying27, run_underlying Tryd.underlying22, typeInfo, hi, hcmp]
  simp only [binOp]
  simp [Op.equal, Op.maxDepth, h 9998]
/-- A wrapped cause. -/
@[reducible] def fltV (c : Int) (s : ByteArray) : Value := .agg #[.int .i64 c, .string s]
theorem wrap_any (c : Int) (s : ByteArray) (w : World) (hc : c ≠ 0) : Calls Tryd.prog 8 #[.int .i64 c, .string s] w fun e w' => e = .returned (.iface 37 (.agg #[.int .i64 c, .string s])) ∧ w = w' := by
  have hcb : (c == 0) = false := by simpa using hc
  go_enter Tryd.func8, Tryd.ntmps8
  go_wp2_with fail
  go_ret
  exact ⟨rfl, rfl⟩
theorem nunwrap_any (c : Int) (s : ByteArray) (w : World) : Calls Tryd.prog 43 #[.agg #[.int .i64 c, .string s]] w fun e w' => e = .returned (.iface 22 (.int .i64 c)) ∧ Below w.heap.size w w' := by
  go_enter Tryd.func43, Tryd.ntmps43
  go_wp2_with fail
  go_ret
  exact ⟨rfl, (Below.refl _ _).alloc (Nat.le_refl _) _⟩
set_option maxHeartbeats 4000000 in
theorem is_noted (c d : Int) (s : ByteArray) (w : World) :
    Calls Tryd.prog 7 #[.iface 37 (.agg #[.int .i64 c, .string s]), .iface 22 (.int .i64 d)] w fun e w' => e = .returned (.bool (c == d)) ∧ Below w.heap.size w w' := by
  have h16 := @run_callFunc_extern Tryd.prog 13 _ ReflectliteType.typeOf Tryd.func13 (by kernel_rfl) (by kernel_rfl) (by kernel_rfl) (by kernel_rfl)
  have h53 := @run_callFunc_extern Tryd.prog 47 _ (ReflectliteType.method fun t => do Rtype.noPackHeld "Comparable" t; pure (.bool (← typeInfo t).comparable)) Tryd.func47 (by kernel_rfl) (by kernel_rfl) (by kernel_rfl) (by kernel_rfl)
  have tT := isTypeOf
  have cT := isComparable
  have mR := isMethodComparable
  have n1 := noIsN
  have n2 := hasUnwrapN
  have n3 := methodUnwrap
  have n4 := noIsE
  have n5 := noUnwrapE
  have n6 := noUnwrapsE
  have ne := neErr
  have HU := Lib.hid (nunwrap_any c s w)
  have e2 := eqEE c d
  obtain ⟨q, hq⟩ : ∃ q, q = (c == d) := ⟨_, rfl⟩
  rw [← hq] at e2 ⊢
  clear hq
  rcases q with _ | _
  · go_enter Tryd.func7, Tryd.ntmps7
    go_wp2
    refine wp_loop_rounds 2 ?_
    rw [rounds_succ]
    go_wp2_with (go_at_call 43; refine HU.out.mono ?_; rintro e w1 ⟨rfl, hb⟩; have HB := Lib.hid hb; clear hb)
    rw [rounds_succ]
    go_wp2_with fail
    go_ret
    exact ⟨rfl, HB.out⟩
  · go_enter Tryd.func7, Tryd.ntmps7
    go_wp2
    refine wp_loop_rounds 2 ?_
    rw [rounds_succ]
    go_wp2_with (go_at_call 43; refine HU.out.mono ?_; rintro e w1 ⟨rfl, hb⟩; have HB := Lib.hid hb; clear hb)
    rw [rounds_succ]
    go_wp2_with fail
    go_ret
    exact ⟨rfl, HB.out⟩
end Go.Proofs.YtlgpidpnjmbknaaDoor
