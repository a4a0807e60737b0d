/-
  Two ends held against each other.
-/
import Derived.Test.YtgpbajpeldjomaaGreatSumw
import Derived.Laws.StructEq
namespace Go.Proofs.YtgpbajpeldjomaaGreat
open Go.RowKit
theorem fieldsOf_end : Tryz.prog.fieldsOf 124 = #[⟨"Address", 3, 0, false, "", "", 0⟩, ⟨"Port", 3, 1, false, "", "", 8⟩] := by kernel_rfl
theorem under_end : Tryz.prog.underlying 124 = some (.struct (Tryz.prog.fieldsOf 124)) := by kernel_rfl
theorem under_int : Tryz.prog.underlying 3 = some (.int .i64) := by kernel_rfl
theorem stood_end : Tryz.prog.stoodInHeld 124 = false := by kernel_rfl
theorem guard_end : Tryz.prog.eqGuardType Tryz.prog.depth 124 = false := by kernel_rfl
theorem isAgg_int (w : World) : (isAgg 3).run Tryz.prog w = .ok false w := by
  unfold isAgg
  rw [Sem.run_bind, run_underlying under_int w]
  simp
theorem end_eq (w : World) (a b c d : Int) : (binOp .eql 124 (.agg #[.int .i64 a, .int .i64 b]) (.agg #[.int .i64 c, .int .i64 d])).run Tryz.prog w = .ok (.bool (a == c && b == d)) w := by
  rw [run_eql_struct, run_equalIn_struct w 9999 _ _ _ under_end stood_end, fieldsOf_end]
  have e1 := fun x y => run_equalIn_int (P := Tryz.prog) w 9998 3 .i64 .i64 x y under_int
  simp only [Op.eqFields, part, isAgg_int, Sem.run_bind, Result.andThen_ok, Sem.run_ite, Sem.run_pure]
  cases h : a == c <;> cases h2 : b == d <;> simp [h, h2, e1]
theorem end_guard (w : World) (x y : Operand) (xs ys : Array Value) : (eqGuard .eql 124 x y (.agg xs) (.agg ys)).run Tryz.prog w = .ok () w := run_eqGuard_agg w .eql _ x y xs ys guard_end
end Go.Proofs.YtgpbajpeldjomaaGreat
