/- Layer 2 (package pair): the division of signed numbers that rounds towards 0. Condition: cells are integers of 64 bits, the divisor is not 0. -/
import Derived.Test.YtheealjhmndbgaaDoorC2ProgC
namespace Go.Proofs.YtheealjhmndbgaaDoor
open Go.RowKit
set_option linter.unusedVariables false

theorem neg_same (n : Int) : lo (-V (lo n) (hi n)) = lo (-n) ∧ hi (-V (lo n) (hi n)) = hi (-n) := by
  obtain ⟨k, hk⟩ := V_mk n
  exact same (-k) (by rw [hk]; omega)
theorem neg_mk (n : Int) (W : World) : Calls Tryd.prog 46 #[.agg #[.int .i64 (lo n), .int .i64 (hi n)]] W fun e w' => e = .returned (.agg #[.int .i64 (lo (-n)), .int .i64 (hi (-n))]) ∧ Ext W w' := by
  have h := neg_calls W (lo n) (hi n) (lo_i64 n) (hi_i64 n) W (Ext.refl W)
  rw [(neg_same n).1, (neg_same n).2] at h
  exact h
theorem own2 (w : World) (a b c d : Value) : Own ((w.alloc (.cells #[a, b] 57)).alloc (.cells #[c, d] 57)) w.heap.size a b ∧ Own ((w.alloc (.cells #[a, b] 57)).alloc (.cells #[c, d] 57)) (w.heap.size + 1) c d := by
  refine ⟨Own.last.alloc _ _, ?_⟩
  have h := Own.last (X := w.alloc (.cells #[a, b] 57)) (x := c) (y := d) (t := 57)
  rwa [size_alloc] at h
theorem own3 (w : World) (a b c d e f : Value) : Own (((w.alloc (.cells #[a, b] 57)).alloc (.cells #[c, d] 57)).alloc (.cells #[e, f] 57)) w.heap.size a b ∧ Own (((w.alloc (.cells #[a, b] 57)).alloc (.cells #[c, d] 57)).alloc (.cells #[e, f] 57)) (w.heap.size + 1) c d
    ∧ Own (((w.alloc (.cells #[a, b] 57)).alloc (.cells #[c, d] 57)).alloc (.cells #[e, f] 57)) (w.heap.size + 1 + 1) e f := by
  refine ⟨(own2 w a b c d).1.alloc _ _, (own2 w a b c d).2.alloc _ _, ?_⟩
  have h := Own.last (X := (w.alloc (.cells #[a, b] 57)).alloc (.cells #[c, d] 57)) (x := e) (y := f) (t := 57)
  rwa [size_alloc, size_alloc] at h

end Go.Proofs.YtheealjhmndbgaaDoor
