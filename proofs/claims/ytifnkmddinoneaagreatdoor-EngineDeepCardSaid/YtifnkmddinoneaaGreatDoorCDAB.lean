/- Layer 12: slices.Index and slices.Contains over texts; groupOf and Name of package table. Condition: rows of at most 1000000 texts. Layer 12: rows of the table's words: a word as cells, rows of one's own, an append, a word that is read, words compared. Condition: rows of at most 1000000 words. -/
import Derived.Test.YtifnkmddinoneaaGreatDoorChecked
import Derived.WalkKit
import Derived.WalkLawsBesides
import Derived.WalkSpells
import Derived.Lib.Hide
import Derived.Laws.OwnMore
import Derived.Laws.IdiomCopy
import Derived.Deep.RegionLaw
import Derived.Lib.LazyBuf
import Derived.Laws.BytesArg
import Derived.Laws.IdiomStrings
import Derived.Lib.AppendStr
import Derived.Deep.LoopGhost
import Derived.Deep.Cut
import Derived.Deep.DeepCutAuto
import Derived.Test.YtifnkmddinoneaaGreatDoorCBBB
import Derived.Test.YtifnkmddinoneaaGreatDoorCBAO
import Derived.Test.YtifnkmddinoneaaGreatDoorCBAI
import Derived.Test.YtifnkmddinoneaaGreatDoorCBAA
import Derived.Test.YtifnkmddinoneaaGreatDoorCBAM
set_option maxRecDepth 100000
namespace Go.Proofs.YtifnkmddinoneaaGreatDoor.L12
open Go.RowKit
set_option linter.unusedVariables false
theorem str_eql (s : List UInt8) : ((str s).toList == (str s).toList) = true := by rw [beq_iff_eq]
end Go.Proofs.YtifnkmddinoneaaGreatDoor.L12
namespace Go.Proofs.YtifnkmddinoneaaGreatDoor.L12
open Go.RowKit
set_option linter.unusedVariables false
theorem EnAt.far {w w' : World} {A : Option Addr} {X : List En} (h : EnAt w A X) (m : Mod [] w w') : EnAt w' A X := fun j hj => by
  obtain ⟨b, e, h0, h1, h2, h3, h4⟩ := h j hj
  exact ⟨b, e, m.cell (by simp) h0, m.cell (by simp) h1, m.cell (by simp) h2, m.cell (by simp) h3, m.cell (by simp) h4⟩
end Go.Proofs.YtifnkmddinoneaaGreatDoor.L12
