/- What the comparison of two pairs as whole structs comes to. No condition. -/
import Derived.Test.YtnclfopdgilgaaaStruct
namespace Go.Proofs.Ytnclfopdgilgaaa
open Go.RowKit
set_option linter.unusedVariables false

set_option maxRecDepth 100000 in
@[go_sem] theorem eq_pair (a b c d : Int) (w : World) : (Op.equalIn 10000 84 (.agg #[.int .i64 a, .int .i64 b]) (.agg #[.int .i64 c, .int .i64 d])).run Try.prog w = .ok (a == c && b == d) w := by
  have u3 := Try.underlying33
  have a3 := Try.isAgg33
  have z3 := Try.sizeOf33
  have hS : Try.prog.underlying 84 = some (.struct (Try.prog.fieldsOf 84)) := by kernel_rfl
  have hp : Try.prog.stoodInHeld 84 = false := by kernel_rfl
  rw [show (10000 : Nat) = 9999 + 1 from rfl, run_equalIn_agg w 9999 84 _ _ hS hp]
  simp only [Program.fieldsOf, Try.underlying84]
  go_simp
  by_cases h1 : a = c <;> by_cases h2 : b = d <;> simp [h1, h2]
@[go_sem ↓] theorem run_pair_eql (a b c d : Int) (w : World) : (binOp .eql 84 (.agg #[.int .i64 a, .int .i64 b]) (.agg #[.int .i64 c, .int .i64 d])).run Try.prog w = .ok (.bool (a == c && b == d)) w := by
  rw [run_eql_struct, eq_pair]; rfl
@[go_sem ↓] theorem run_pair_neq (a b c d : Int) (w : World) : (binOp .neq 84 (.agg #[.int .i64 a, .int .i64 b]) (.agg #[.int .i64 c, .int .i64 d])).run Try.prog w = .ok (.bool (!(a == c && b == d))) w := by
  rw [run_neq_struct, eq_pair]; rfl
@[go_sem ↓] theorem guard_pair (op : BinOp) (x y : Operand) (xs ys : Array Value) (w : World) : (eqGuard op 84 x y (.agg xs) (.agg ys)).run Try.prog w = .ok () w :=
  run_eqGuard_agg w op 84 x y xs ys (by kernel_rfl)
end Go.Proofs.Ytnclfopdgilgaaa
