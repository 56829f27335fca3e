/- EngineLocals: the closed facts of its row. No condition. -/
import Derived.Test.YtifnkmddinoneaaGreatDoorRows
import Derived.Test.YtifnkmddinoneaaGreatDoorCards
import Derived.WalkKit
import Derived.ProofKit
import Derived.JoinedOf
import Derived.SevenTiedAt
import Derived.Test.YtifnkmddinoneaaGreatDoorCBAG
set_option maxRecDepth 100000
namespace Go.Proofs.YtifnkmddinoneaaGreatDoor.engineLocals
open Go.ChangeShapes Go.WideShapes Go.ChangeAt Go.RowKit Go.ChangeMaps
set_option maxRecDepth 100000
theorem cj0 : (Rows.engineLocalsRow.wf (OpenSpec.ofChange Rows.engineLocalsSpec)) = true := by kernel_rfl
theorem cj1 : (laidOutB Tryz.pinned.checked.prog) = true := jp1
theorem cj2 : (mapsRowed Tryz.pinned.checked.prog) = true := jp2
theorem cj3 : (Tryz.f6.params.all (Tryz.pinned.checked.prog.readableRec ·)) = true := by kernel_rfl
theorem cj4 : (namedTie Tryz.pinned.checked.prog Rows.engineLocalsRow.named Rows.engineLocalsSpec.vars) = true := by kernel_rfl
theorem cj5 : (Rows.engineLocalsRow.stops == []) = true := by kernel_rfl
theorem cj6 : (Tryz.pinned.checked.prog.stops == []) = true := jp6
theorem cj7 : (Rows.engineLocalsRow.knobs == []) = true := by kernel_rfl
theorem cj8 : (Tryz.pinned.checked.prog.stopKnobs == []) = true := jp8
theorem cj9 : (Rows.engineLocalsRow.inPlace == Tryz.pinned.checked.prog.inPlace 6) = true := by kernel_rfl
theorem cj10 : (Rows.engineLocalsRow.unfollowed == Tryz.pinned.checked.prog.unfollowed 6) = true := by kernel_rfl
theorem cj11 : (Rows.engineLocalsRow.recurses == Tryz.pinned.checked.prog.recurses 6) = true := by kernel_rfl
theorem cj12 : (Rows.engineLocalsRow.named == Tryz.pinned.checked.prog.varsNamed 6) = true := by kernel_rfl
theorem cj13 : (Rows.engineLocalsRow.maps == (Tryz.f6.params.toList ++ Rows.engineLocalsSpec.plain.varTypes Tryz.pinned.checked.prog).any (Tryz.pinned.checked.prog.mapsRec ·)) = true := by kernel_rfl
theorem cj14 : (Rows.engineLocalsRow.ifaces == (Tryz.f6.params.toList ++ Rows.engineLocalsSpec.plain.varTypes Tryz.pinned.checked.prog).any (Tryz.pinned.checked.prog.ifacesRec ·)) = true := by kernel_rfl
theorem cj15 : (Rows.engineLocalsRow.mapsOut == Tryz.pinned.checked.prog.mapsAmong Tryz.f6.resultTypes.toList) = true := by kernel_rfl
theorem cj16 : (Rows.engineLocalsRow.loops == (Tryz.f6.params.toList ++ Rows.engineLocalsSpec.plain.varTypes Tryz.pinned.checked.prog).any (Tryz.pinned.checked.prog.loopsFrom ·)) = true := by kernel_rfl
theorem cj17 : (Rows.engineLocalsRow.wideKeys == (Tryz.f6.params.toList ++ Rows.engineLocalsSpec.plain.varTypes Tryz.pinned.checked.prog ++ Tryz.f6.resultTypes.toList).any (Tryz.pinned.checked.prog.wideKeysFrom ·)) = true := by kernel_rfl
theorem cj18 : (Rows.engineLocalsSpec.vars.all (Tryz.pinned.checked.prog.varReadable ·)) = true := by kernel_rfl
theorem cj19 : (Tryz.f6.resultTypes.all (fun t => Tryz.pinned.checked.prog.readableRec t && decide (t < Tryz.pinned.checked.prog.types.size))) = true := by kernel_rfl
theorem cj20 : (Rows.engineLocalsRow.ifacesOut == Tryz.f6.resultTypes.toList.any (Tryz.pinned.checked.prog.ifacesRec ·)) = true := by kernel_rfl
theorem cj21 : (Rows.engineLocalsRow.loopsOut == Tryz.f6.resultTypes.toList.any (Tryz.pinned.checked.prog.loopsFrom ·)) = true := by kernel_rfl
theorem cj22 : (Rows.engineLocalsRow.plainKeys == Tryz.pinned.checked.prog.plainKeys) = true := jp22
theorem cj23 : (Rows.engineLocalsRow.shortTexts.isNone) = true := by kernel_rfl
theorem cj24 : (Tryz.pinned.checked.prog.stopsHeard) = true := jp24
theorem cj25 : (Tryz.pinned.checked.prog.mayEnter) = true := jp25
theorem cj26 : (Rows.engineLocalsRow.lifted == Tryz.pinned.checked.prog.liftsFinal) = true := jp26
theorem cj27 : (Tryz.pinned.checked.prog.make == some Rows.engineLocalsRow.make) = true := jp27
theorem cj28 : (Rows.engineLocalsRow.kinds == (if Rows.engineLocalsRow.domain.isEmpty then [] else Tryz.f6.params.toList.map fun t => match Tryz.pinned.checked.prog.underlying t with | some (.int k) => some k | _ => none)) = true := by kernel_rfl
theorem cj29 : (Rows.engineLocalsRow.pinned == Rows.engineLocalsRow.pinnedBy) = true := by kernel_rfl
theorem cj30 : (Rows.engineLocalsRow.veiled == (Tryz.f6.params.toList ++ Rows.engineLocalsSpec.plain.varTypes Tryz.pinned.checked.prog ++ Tryz.f6.resultTypes.toList).any (Tryz.pinned.checked.prog.veiledRec ·)) = true := by kernel_rfl
theorem cj31 : (Rows.engineLocalsRow.veiledFits Tryz.pinned.checked.prog Tryz.f6.params.toList (Tryz.f6.params.toList ++ Rows.engineLocalsSpec.plain.varTypes Tryz.pinned.checked.prog ++ Tryz.f6.resultTypes.toList)) = true := by kernel_rfl
theorem joined : joinedFacts Tryz.pinned.checked.prog 6 Tryz.f6 Rows.engineLocalsSpec Rows.engineLocalsRow = true :=
  (and_t (and_t (and_t (and_t (and_t (and_t (and_t (and_t (and_t (and_t (and_t (and_t (and_t (and_t (and_t (and_t (and_t (and_t (and_t (and_t (and_t (and_t (and_t (and_t (and_t (and_t (and_t (and_t (and_t (and_t (and_t cj0 cj1) cj2) cj3) cj4) cj5) cj6) cj7) cj8) cj9) cj10) cj11) cj12) cj13) cj14) cj15) cj16) cj17) cj18) cj19) cj20) cj21) cj22) cj23) cj24) cj25) cj26) cj27) cj28) cj29) cj30) cj31)
theorem fnamed : Tryz.pinned.checked.prog.funcNamed Rows.engineLocalsRow.func = some 6 := by kernel_rfl
theorem instanced : (Tryz.f6).isInstance Tryz.pinned.checked.prog Rows.engineLocalsRow.origin Rows.engineLocalsRow.targs := of_decide_eq_true (by kernel_rfl)
theorem wrapped : (Tryz.f6).isWrapper Tryz.pinned.checked.prog Rows.engineLocalsRow.wrapper Rows.engineLocalsRow.mainSum := by unfold Func.isWrapper; first | (rw [if_pos (by decide +kernel)]; kernel_rfl) | (rw [if_neg (by decide +kernel)]; exact ⟨rfl, rfl⟩)
theorem wfText : Rows.engineLocalsRow.wfByText (OpenSpec.ofChange Rows.engineLocalsSpec) = true := by kernel_rfl
theorem goes : false = Rows.engineLocalsRow.goesBy Tryz.pinned.checked.prog := by kernel_rfl
end Go.Proofs.YtifnkmddinoneaaGreatDoor.engineLocals
