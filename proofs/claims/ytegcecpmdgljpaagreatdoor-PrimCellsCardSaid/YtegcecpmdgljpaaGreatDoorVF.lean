/- Layer 13: the base is put; a number is made digit by digit. Condition: numbers are of their kinds. -/
import Derived.Test.YtegcecpmdgljpaaGreatDoorVE
namespace Go.Proofs.YtegcecpmdgljpaaGreatDoor
open Go.RowKit
set_option linter.unusedVariables false

end Go.Proofs.YtegcecpmdgljpaaGreatDoor
