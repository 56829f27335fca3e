/- The document's answers for layer 2: the long division, bit by bit. Condition: cells are integers of 64 bits, and the divisor is not 0. -/
import Derived.Deep.RegionHeld3
import Derived.Test.YtifnkmddinoneaaGreatDoorCBAO
set_option maxRecDepth 100000
namespace Go.Proofs.YtifnkmddinoneaaGreatDoor
open Go.RowKit
set_option linter.unusedVariables false

def big : Nat := 340282366920938463463374607431768211456
def high (N : Nat) : Nat := N / big
theorem W_low (b : Int) : W b 0 = U b := by unfold W U; omega
end Go.Proofs.YtifnkmddinoneaaGreatDoor
