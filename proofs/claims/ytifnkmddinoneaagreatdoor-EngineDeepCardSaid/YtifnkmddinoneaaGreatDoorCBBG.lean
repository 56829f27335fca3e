/- Layer 2 (package pair): sums, halves, order. Condition: cells are integers of 64 bits. -/
import Derived.Laws.Externs
import Derived.Shelf.Spec.BitsCarry
import Derived.Test.YtifnkmddinoneaaGreatDoorCBAO
set_option maxRecDepth 100000
namespace Go.Proofs.YtifnkmddinoneaaGreatDoor
open Go.RowKit
set_option linter.unusedVariables false
theorem frombits_calls (w0 : World) (x y : Int) (w : World) (h : Ext w0 w) : Calls Tryz.prog 275 #[.int .u64 x, .int .u64 y] w fun e w' => e = .returned (.agg #[.int .i64 (wrap64 y), .int .i64 (wrap64 x)]) ∧ Ext w0 w' := by
  go_enter Tryz.func275, Tryz.ntmps275
  go_wp2
  exact bodyPost_ret (v := .agg #[.int .i64 (wrap64 y), .int .i64 (wrap64 x)]) (by simp [results, Tryz.results275, go_sem]) rfl ⟨rfl, h.cells _ _⟩
end Go.Proofs.YtifnkmddinoneaaGreatDoor
