/- Layer 2 (package pair): sums, halves, order. Condition: cells are integers of 64 bits. -/
import Derived.Test.YthmdobajilladaaDoorPair
import Derived.Test.YthmdobajilladaaDoorPairEq
import Derived.Laws.Externs
import Derived.Shelf.Spec.BitsCarry
namespace Go.Proofs.YthmdobajilladaaDoor
open Go.RowKit
set_option linter.unusedVariables false

theorem p_ret_pair {a b c d : Int} (h : a = c) (k : b = d) : Ending.returned (.agg #[.int .i64 a, .int .i64 b]) = .returned (.agg #[.int .i64 c, .int .i64 d]) := by rw [h, k]

theorem sum_is (a b c d : Int) (ha : I64 a) (hb : I64 b) (hc : I64 c) (hd : I64 d) :
    wrap64 ((U a + U c + 0) % 18446744073709551616) = lo (V a b + V c d) ∧ wrap64 ((U b + U d + (U a + U c + 0) / 18446744073709551616) % 18446744073709551616) = hi (V a b + V c d) := by
  unfold lo hi V U wrap64; unfold I64 at *
  refine ⟨by omega, by omega⟩
theorem neg_is (a b : Int) (ha : I64 a) (hb : I64 b) :
    wrap64 ((-U a - 0) % 18446744073709551616) = lo (-V a b) ∧ wrap64 ((-U b - (if 0 < U a + 0 then 1 else 0)) % 18446744073709551616) = hi (-V a b) := by
  unfold lo hi V U wrap64; unfold I64 at *
  refine ⟨by omega, by split <;> omega⟩
theorem shr63 (a : Int) (ha : I64 a) : a / 9223372036854775808 = if a < 0 then -1 else 0 := by unfold I64 at ha; split <;> omega
end Go.Proofs.YthmdobajilladaaDoor
