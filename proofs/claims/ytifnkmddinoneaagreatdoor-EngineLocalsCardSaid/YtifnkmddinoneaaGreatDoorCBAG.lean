/- Layer 15: closed facts of the program alone, which the rows' frames share. No condition. EngineBranches: the closed facts of its row. No condition. -/
import Derived.Test.YtifnkmddinoneaaGreatDoorRows
import Derived.Test.YtifnkmddinoneaaGreatDoorCards
import Derived.WalkKit
import Derived.ProofKit
import Derived.JoinedOf
import Derived.SevenTiedAt
set_option maxRecDepth 100000
namespace Go.Proofs.YtifnkmddinoneaaGreatDoor
open Go.ChangeShapes Go.WideShapes Go.ChangeAt Go.RowKit Go.ChangeMaps
theorem and_t {a b : Bool} (h : a = true) (k : b = true) : (a && b) = true := by rw [h, k]; rfl
theorem jp1 : (laidOutB Tryz.pinned.checked.prog) = true := by kernel_rfl
theorem jp2 : (mapsRowed Tryz.pinned.checked.prog) = true := by kernel_rfl
theorem jp6 : (Tryz.pinned.checked.prog.stops == []) = true := by kernel_rfl
theorem jp8 : (Tryz.pinned.checked.prog.stopKnobs == []) = true := by kernel_rfl
theorem jp22 : (Rows.engineCleanRow.plainKeys == Tryz.pinned.checked.prog.plainKeys) = true := by kernel_rfl
theorem jp24 : (Tryz.pinned.checked.prog.stopsHeard) = true := by kernel_rfl
theorem jp25 : (Tryz.pinned.checked.prog.mayEnter) = true := by kernel_rfl
theorem jp26 : (Rows.engineCleanRow.lifted == Tryz.pinned.checked.prog.liftsFinal) = true := by kernel_rfl
theorem jp27 : (Tryz.pinned.checked.prog.make == some Rows.engineCleanRow.make) = true := by kernel_rfl
theorem main15 : Tryz.pinned.checked.prog.mainIs = some (true, "ce0f2b5de0405c625a639c1a342959adda17fa2dfebf46affe7e9befdf4cdcc9".toList) := by kernel_rfl
theorem looks15 : false = Tryz.pinned.checked.prog.looks [] := by kernel_rfl
end Go.Proofs.YtifnkmddinoneaaGreatDoor
namespace Go.Proofs.YtifnkmddinoneaaGreatDoor.engineBranches
open Go.ChangeShapes Go.WideShapes Go.ChangeAt Go.RowKit Go.ChangeMaps
set_option maxRecDepth 100000
theorem cj0 : (Rows.engineBranchesRow.wf (OpenSpec.ofChange Rows.engineBranchesSpec)) = true := by kernel_rfl
theorem cj1 : (laidOutB Tryz.pinned.checked.prog) = true := jp1
theorem cj2 : (mapsRowed Tryz.pinned.checked.prog) = true := jp2
theorem cj3 : (Tryz.f8.params.all (Tryz.pinned.checked.prog.readableRec ·)) = true := by kernel_rfl
theorem cj4 : (namedTie Tryz.pinned.checked.prog Rows.engineBranchesRow.named Rows.engineBranchesSpec.vars) = true := by kernel_rfl
theorem cj5 : (Rows.engineBranchesRow.stops == []) = true := by kernel_rfl
theorem cj6 : (Tryz.pinned.checked.prog.stops == []) = true := jp6
theorem cj7 : (Rows.engineBranchesRow.knobs == []) = true := by kernel_rfl
theorem cj8 : (Tryz.pinned.checked.prog.stopKnobs == []) = true := jp8
theorem cj9 : (Rows.engineBranchesRow.inPlace == Tryz.pinned.checked.prog.inPlace 8) = true := by kernel_rfl
theorem cj10 : (Rows.engineBranchesRow.unfollowed == Tryz.pinned.checked.prog.unfollowed 8) = true := by kernel_rfl
theorem cj11 : (Rows.engineBranchesRow.recurses == Tryz.pinned.checked.prog.recurses 8) = true := by kernel_rfl
theorem cj12 : (Rows.engineBranchesRow.named == Tryz.pinned.checked.prog.varsNamed 8) = true := by kernel_rfl
theorem cj13 : (Rows.engineBranchesRow.maps == (Tryz.f8.params.toList ++ Rows.engineBranchesSpec.plain.varTypes Tryz.pinned.checked.prog).any (Tryz.pinned.checked.prog.mapsRec ·)) = true := by kernel_rfl
theorem cj14 : (Rows.engineBranchesRow.ifaces == (Tryz.f8.params.toList ++ Rows.engineBranchesSpec.plain.varTypes Tryz.pinned.checked.prog).any (Tryz.pinned.checked.prog.ifacesRec ·)) = true := by kernel_rfl
theorem cj15 : (Rows.engineBranchesRow.mapsOut == Tryz.pinned.checked.prog.mapsAmong Tryz.f8.resultTypes.toList) = true := by kernel_rfl
theorem cj16 : (Rows.engineBranchesRow.loops == (Tryz.f8.params.toList ++ Rows.engineBranchesSpec.plain.varTypes Tryz.pinned.checked.prog).any (Tryz.pinned.checked.prog.loopsFrom ·)) = true := by kernel_rfl
theorem cj17 : (Rows.engineBranchesRow.wideKeys == (Tryz.f8.params.toList ++ Rows.engineBranchesSpec.plain.varTypes Tryz.pinned.checked.prog ++ Tryz.f8.resultTypes.toList).any (Tryz.pinned.checked.prog.wideKeysFrom ·)) = true := by kernel_rfl
theorem cj18 : (Rows.engineBranchesSpec.vars.all (Tryz.pinned.checked.prog.varReadable ·)) = true := by kernel_rfl
theorem cj19 : (Tryz.f8.resultTypes.all (fun t => Tryz.pinned.checked.prog.readableRec t && decide (t < Tryz.pinned.checked.prog.types.size))) = true := by kernel_rfl
theorem cj20 : (Rows.engineBranchesRow.ifacesOut == Tryz.f8.resultTypes.toList.any (Tryz.pinned.checked.prog.ifacesRec ·)) = true := by kernel_rfl
theorem cj21 : (Rows.engineBranchesRow.loopsOut == Tryz.f8.resultTypes.toList.any (Tryz.pinned.checked.prog.loopsFrom ·)) = true := by kernel_rfl
theorem cj22 : (Rows.engineBranchesRow.plainKeys == Tryz.pinned.checked.prog.plainKeys) = true := jp22
theorem cj23 : (Rows.engineBranchesRow.shortTexts.isNone) = true := by kernel_rfl
theorem cj24 : (Tryz.pinned.checked.prog.stopsHeard) = true := jp24
theorem cj25 : (Tryz.pinned.checked.prog.mayEnter) = true := jp25
theorem cj26 : (Rows.engineBranchesRow.lifted == Tryz.pinned.checked.prog.liftsFinal) = true := jp26
theorem cj27 : (Tryz.pinned.checked.prog.make == some Rows.engineBranchesRow.make) = true := jp27
theorem cj28 : (Rows.engineBranchesRow.kinds == (if Rows.engineBranchesRow.domain.isEmpty then [] else Tryz.f8.params.toList.map fun t => match Tryz.pinned.checked.prog.underlying t with | some (.int k) => some k | _ => none)) = true := by kernel_rfl
theorem cj29 : (Rows.engineBranchesRow.pinned == Rows.engineBranchesRow.pinnedBy) = true := by kernel_rfl
theorem cj30 : (Rows.engineBranchesRow.veiled == (Tryz.f8.params.toList ++ Rows.engineBranchesSpec.plain.varTypes Tryz.pinned.checked.prog ++ Tryz.f8.resultTypes.toList).any (Tryz.pinned.checked.prog.veiledRec ·)) = true := by kernel_rfl
theorem cj31 : (Rows.engineBranchesRow.veiledFits Tryz.pinned.checked.prog Tryz.f8.params.toList (Tryz.f8.params.toList ++ Rows.engineBranchesSpec.plain.varTypes Tryz.pinned.checked.prog ++ Tryz.f8.resultTypes.toList)) = true := by kernel_rfl
theorem joined : joinedFacts Tryz.pinned.checked.prog 8 Tryz.f8 Rows.engineBranchesSpec Rows.engineBranchesRow = true :=
  (and_t (and_t (and_t (and_t (and_t (and_t (and_t (and_t (and_t (and_t (and_t (and_t (and_t (and_t (and_t (and_t (and_t (and_t (and_t (and_t (and_t (and_t (and_t (and_t (and_t (and_t (and_t (and_t (and_t (and_t (and_t cj0 cj1) cj2) cj3) cj4) cj5) cj6) cj7) cj8) cj9) cj10) cj11) cj12) cj13) cj14) cj15) cj16) cj17) cj18) cj19) cj20) cj21) cj22) cj23) cj24) cj25) cj26) cj27) cj28) cj29) cj30) cj31)
theorem fnamed : Tryz.pinned.checked.prog.funcNamed Rows.engineBranchesRow.func = some 8 := by kernel_rfl
theorem instanced : (Tryz.f8).isInstance Tryz.pinned.checked.prog Rows.engineBranchesRow.origin Rows.engineBranchesRow.targs := of_decide_eq_true (by kernel_rfl)
theorem wrapped : (Tryz.f8).isWrapper Tryz.pinned.checked.prog Rows.engineBranchesRow.wrapper Rows.engineBranchesRow.mainSum := by unfold Func.isWrapper; first | (rw [if_pos (by decide +kernel)]; kernel_rfl) | (rw [if_neg (by decide +kernel)]; exact ⟨rfl, rfl⟩)
theorem wfText : Rows.engineBranchesRow.wfByText (OpenSpec.ofChange Rows.engineBranchesSpec) = true := by kernel_rfl
theorem goes : false = Rows.engineBranchesRow.goesBy Tryz.pinned.checked.prog := by kernel_rfl
end Go.Proofs.YtifnkmddinoneaaGreatDoor.engineBranches
