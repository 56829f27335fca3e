/- EngineDeep: the closed facts of its row. No condition. -/
import Derived.Test.YtifnkmddinoneaaGreatDoorRows
import Derived.Test.YtifnkmddinoneaaGreatDoorCards
import Derived.WalkKit
import Derived.ProofKit
import Derived.JoinedOf
import Derived.SevenTiedAt
import Derived.Test.YtifnkmddinoneaaGreatDoorCBAG
set_option maxRecDepth 100000
namespace Go.Proofs.YtifnkmddinoneaaGreatDoor.engineDeep
open Go.ChangeShapes Go.WideShapes Go.ChangeAt Go.RowKit Go.ChangeMaps
set_option maxRecDepth 100000
theorem cj0 : (Rows.engineDeepRow.wf (OpenSpec.ofChange Rows.engineDeepSpec)) = true := by kernel_rfl
theorem cj1 : (laidOutB Tryz.pinned.checked.prog) = true := jp1
theorem cj2 : (mapsRowed Tryz.pinned.checked.prog) = true := jp2
theorem cj3 : (Tryz.f9.params.all (Tryz.pinned.checked.prog.readableRec ·)) = true := by kernel_rfl
theorem cj4 : (namedTie Tryz.pinned.checked.prog Rows.engineDeepRow.named Rows.engineDeepSpec.vars) = true := by kernel_rfl
theorem cj5 : (Rows.engineDeepRow.stops == []) = true := by kernel_rfl
theorem cj6 : (Tryz.pinned.checked.prog.stops == []) = true := jp6
theorem cj7 : (Rows.engineDeepRow.knobs == []) = true := by kernel_rfl
theorem cj8 : (Tryz.pinned.checked.prog.stopKnobs == []) = true := jp8
theorem cj9 : (Rows.engineDeepRow.inPlace == Tryz.pinned.checked.prog.inPlace 9) = true := by kernel_rfl
theorem cj10 : (Rows.engineDeepRow.unfollowed == Tryz.pinned.checked.prog.unfollowed 9) = true := by kernel_rfl
theorem cj11 : (Rows.engineDeepRow.recurses == Tryz.pinned.checked.prog.recurses 9) = true := by kernel_rfl
theorem cj12 : (Rows.engineDeepRow.named == Tryz.pinned.checked.prog.varsNamed 9) = true := by kernel_rfl
theorem cj13 : (Rows.engineDeepRow.maps == (Tryz.f9.params.toList ++ Rows.engineDeepSpec.plain.varTypes Tryz.pinned.checked.prog).any (Tryz.pinned.checked.prog.mapsRec ·)) = true := by kernel_rfl
theorem cj14 : (Rows.engineDeepRow.ifaces == (Tryz.f9.params.toList ++ Rows.engineDeepSpec.plain.varTypes Tryz.pinned.checked.prog).any (Tryz.pinned.checked.prog.ifacesRec ·)) = true := by kernel_rfl
theorem cj15 : (Rows.engineDeepRow.mapsOut == Tryz.pinned.checked.prog.mapsAmong Tryz.f9.resultTypes.toList) = true := by kernel_rfl
theorem cj16 : (Rows.engineDeepRow.loops == (Tryz.f9.params.toList ++ Rows.engineDeepSpec.plain.varTypes Tryz.pinned.checked.prog).any (Tryz.pinned.checked.prog.loopsFrom ·)) = true := by kernel_rfl
theorem cj17 : (Rows.engineDeepRow.wideKeys == (Tryz.f9.params.toList ++ Rows.engineDeepSpec.plain.varTypes Tryz.pinned.checked.prog ++ Tryz.f9.resultTypes.toList).any (Tryz.pinned.checked.prog.wideKeysFrom ·)) = true := by kernel_rfl
theorem cj18 : (Rows.engineDeepSpec.vars.all (Tryz.pinned.checked.prog.varReadable ·)) = true := by kernel_rfl
theorem cj19 : (Tryz.f9.resultTypes.all (fun t => Tryz.pinned.checked.prog.readableRec t && decide (t < Tryz.pinned.checked.prog.types.size))) = true := by kernel_rfl
theorem cj20 : (Rows.engineDeepRow.ifacesOut == Tryz.f9.resultTypes.toList.any (Tryz.pinned.checked.prog.ifacesRec ·)) = true := by kernel_rfl
theorem cj21 : (Rows.engineDeepRow.loopsOut == Tryz.f9.resultTypes.toList.any (Tryz.pinned.checked.prog.loopsFrom ·)) = true := by kernel_rfl
theorem cj22 : (Rows.engineDeepRow.plainKeys == Tryz.pinned.checked.prog.plainKeys) = true := jp22
theorem cj23 : (Rows.engineDeepRow.shortTexts.isNone) = true := by kernel_rfl
theorem cj24 : (Tryz.pinned.checked.prog.stopsHeard) = true := jp24
theorem cj25 : (Tryz.pinned.checked.prog.mayEnter) = true := jp25
theorem cj26 : (Rows.engineDeepRow.lifted == Tryz.pinned.checked.prog.liftsFinal) = true := jp26
theorem cj27 : (Tryz.pinned.checked.prog.make == some Rows.engineDeepRow.make) = true := jp27
theorem cj28 : (Rows.engineDeepRow.kinds == (if Rows.engineDeepRow.domain.isEmpty then [] else Tryz.f9.params.toList.map fun t => match Tryz.pinned.checked.prog.underlying t with | some (.int k) => some k | _ => none)) = true := by kernel_rfl
theorem cj29 : (Rows.engineDeepRow.pinned == Rows.engineDeepRow.pinnedBy) = true := by kernel_rfl
theorem cj30 : (Rows.engineDeepRow.veiled == (Tryz.f9.params.toList ++ Rows.engineDeepSpec.plain.varTypes Tryz.pinned.checked.prog ++ Tryz.f9.resultTypes.toList).any (Tryz.pinned.checked.prog.veiledRec ·)) = true := by kernel_rfl
theorem cj31 : (Rows.engineDeepRow.veiledFits Tryz.pinned.checked.prog Tryz.f9.params.toList (Tryz.f9.params.toList ++ Rows.engineDeepSpec.plain.varTypes Tryz.pinned.checked.prog ++ Tryz.f9.resultTypes.toList)) = true := by kernel_rfl
theorem joined : joinedFacts Tryz.pinned.checked.prog 9 Tryz.f9 Rows.engineDeepSpec Rows.engineDeepRow = true :=
  (and_t (and_t (and_t (and_t (and_t (and_t (and_t (and_t (and_t (and_t (and_t (and_t (and_t (and_t (and_t (and_t (and_t (and_t (and_t (and_t (and_t (and_t (and_t (and_t (and_t (and_t (and_t (and_t (and_t (and_t (and_t cj0 cj1) cj2) cj3) cj4) cj5) cj6) cj7) cj8) cj9) cj10) cj11) cj12) cj13) cj14) cj15) cj16) cj17) cj18) cj19) cj20) cj21) cj22) cj23) cj24) cj25) cj26) cj27) cj28) cj29) cj30) cj31)
theorem fnamed : Tryz.pinned.checked.prog.funcNamed Rows.engineDeepRow.func = some 9 := by kernel_rfl
theorem instanced : (Tryz.f9).isInstance Tryz.pinned.checked.prog Rows.engineDeepRow.origin Rows.engineDeepRow.targs := of_decide_eq_true (by kernel_rfl)
theorem wrapped : (Tryz.f9).isWrapper Tryz.pinned.checked.prog Rows.engineDeepRow.wrapper Rows.engineDeepRow.mainSum := by unfold Func.isWrapper; first | (rw [if_pos (by decide +kernel)]; kernel_rfl) | (rw [if_neg (by decide +kernel)]; exact ⟨rfl, rfl⟩)
theorem wfText : Rows.engineDeepRow.wfByText (OpenSpec.ofChange Rows.engineDeepSpec) = true := by kernel_rfl
theorem goes : false = Rows.engineDeepRow.goesBy Tryz.pinned.checked.prog := by kernel_rfl
end Go.Proofs.YtifnkmddinoneaaGreatDoor.engineDeep
