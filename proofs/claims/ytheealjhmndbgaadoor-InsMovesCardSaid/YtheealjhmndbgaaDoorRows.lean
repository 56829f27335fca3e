/-
  NARROWER THAN 'FOR EVERY INPUT', by the rows' own cells (each row's printed sentence says how): InsMay: laid · InsTexts: laid · InsMoves: laid · InsLoops: laid · InsBounds: laid · InsJumps: laid.
  DERIVED. THE GIVEN ROWS OF THIS SEAT. 6 by the template 'for every input the law returns true; each argument reads behind the call as it read before'; 0 by the template 'total and deterministic' (their statements: YtheealjhmndbgaaDoorTotals.lean).
  GIVEN WITH THE SEED: the statements are not yours to turn. If you find one false, say at which input.
  Laid BY PROGRAM, IN A SANDBOX (cutbox-rows.mjs): the forced cells as the released guide's own fill.sh prints them over the translation b75db0ee7ab14556… (all of the seat's roots in one cut). By AI agents, Wed Nov 11 2026. No macro, syntax, notation, axiom, sorry.
-/
import Derived.Test.YtheealjhmndbgaaDoorChecked
import GoSem.Claim
import GoSem.ClaimJoined
import GoSem.ClaimMapViews
import Derived.JoinedTies
import Derived.KernelRfl
namespace Go.Proofs.YtheealjhmndbgaaDoor
/- THE CELL 'sum', in the pinned program and in every row, IS THE sha256 OF THE DUMP (.gsa) THAT YtheealjhmndbgaaDoorProg.lean LOADS. Nothing in Lean hashes anything: it is a label: what it is worth is what the hold of that sum in a sandbox is worth. -/
noncomputable def Tryd.pinned : Pinned := { name := "ytheealjhmndbgaadoor", sum := "b75db0ee7ab145560e4b2d27c8c510f09e0196796af7fdbb6dc12233ade185c3", checked := Tryd.checked }
namespace Rows
def none {H : Type} : Left H := { results := [], args := [] }

/- WHAT THE LISTED PACKAGE-LEVEL VARIABLES READ AS WHEN THE CALL BEGINS. Each datum BY PROGRAM (the guide's laid-datum.mjs) off the statement by which the dump's own 'gosem.cut.vars' lays the variable. In a bare row this is a premise. The card (YtheealjhmndbgaaDoorCards.lean) ties it to the program's text. -/
def laid_rhyton_ins_operations {H : Type} : DataW H := .agg [.agg [.lit (.string []), .lit (.int .i64 0)], .agg [.lit (.string [108, 105, 116]), .lit (.int .i64 0)], .agg [.lit (.string [99, 97, 108, 108]), .lit (.int .i64 1)], .agg [.lit (.string [106, 117, 109, 112]), .lit (.int .i64 2)], .agg [.lit (.string [122, 101, 114, 111]), .lit (.int .i64 2)], .agg [.lit (.string [100, 111]), .lit (.int .i64 0)], .agg [.lit (.string [113, 100, 111]), .lit (.int .i64 2)], .agg [.lit (.string [108, 111, 111, 112]), .lit (.int .i64 2)], .agg [.lit (.string [112, 108, 117, 115]), .lit (.int .i64 2)], .agg [.lit (.string [108, 101, 97, 118, 101]), .lit (.int .i64 2)], .agg [.lit (.string [111, 102]), .lit (.int .i64 2)], .agg [.lit (.string [100, 114, 111, 112]), .lit (.int .i64 0)], .agg [.lit (.string [108, 111, 99, 97, 108, 115]), .lit (.int .i64 3)], .agg [.lit (.string [108, 111, 99, 97, 108]), .lit (.int .i64 4)], .agg [.lit (.string [116, 111]), .lit (.int .i64 4)], .agg [.lit (.string [101, 120, 105, 116]), .lit (.int .i64 0)]]

/-- 'rhytonlaw10.InsMay': WHATEVER THE INPUT: true; the input reads as it did. -/
def insMaySpec : ChangeSpec := { name := "insMay", fn := fun _ => fun
  | [d1, d2] => { results := [.lit (.bool true)], args := [d1, d2] }
  | _ => none }
def insMayRow : OpenClaim := { program := "ytheealjhmndbgaadoor", sum := "b75db0ee7ab145560e4b2d27c8c510f09e0196796af7fdbb6dc12233ade185c3", func := "rhyton/rhytonlaw10.InsMay", spec := "insMay", inPlace := ["math/bits.Sub64", "internal/abi.NoEscape", "internal/bytealg.MakeNoZero"], named := ["rhyton/ins.operations", "math/bits.divideError", "math/bits.overflowError"], apart := false, laid := [("rhyton/ins.operations", laid_rhyton_ins_operations)] }
def InsMaySaid : Prop := insMayRow.holds Tryd.pinned (OpenSpec.ofChange insMaySpec)

/-- ITS FALSE NEIGHBOUR: 'it returns false'. Refute it at one input. -/
def insMayWrong : ChangeSpec := { name := "insMay", fn := fun _ => fun
  | [d1, d2] => { results := [.lit (.bool false)], args := [d1, d2] }
  | _ => none }
def InsMayWrongFalsely : Prop := insMayRow.holds Tryd.pinned (OpenSpec.ofChange insMayWrong)

/-- 'rhytonlaw10.InsTexts': WHATEVER THE INPUT: true; the input reads as it did. -/
def insTextsSpec : ChangeSpec := { name := "insTexts", fn := fun _ => fun
  | [d] => { results := [.lit (.bool true)], args := [d] }
  | _ => none }
def insTextsRow : OpenClaim := { program := "ytheealjhmndbgaadoor", sum := "b75db0ee7ab145560e4b2d27c8c510f09e0196796af7fdbb6dc12233ade185c3", func := "rhyton/rhytonlaw10.InsTexts", spec := "insTexts", inPlace := ["math/bits.Sub64", "internal/abi.NoEscape", "internal/bytealg.MakeNoZero"], named := ["rhyton/ins.operations", "math/bits.divideError", "math/bits.overflowError"], apart := false, laid := [("rhyton/ins.operations", laid_rhyton_ins_operations)] }
def InsTextsSaid : Prop := insTextsRow.holds Tryd.pinned (OpenSpec.ofChange insTextsSpec)

/-- ITS FALSE NEIGHBOUR: 'it returns false'. Refute it at one input. -/
def insTextsWrong : ChangeSpec := { name := "insTexts", fn := fun _ => fun
  | [d] => { results := [.lit (.bool false)], args := [d] }
  | _ => none }
def InsTextsWrongFalsely : Prop := insTextsRow.holds Tryd.pinned (OpenSpec.ofChange insTextsWrong)

/-- 'rhytonlaw10.InsMoves': WHATEVER THE INPUT: true; the input reads as it did. -/
def insMovesSpec : ChangeSpec := { name := "insMoves", fn := fun _ => fun
  | [d1, d2] => { results := [.lit (.bool true)], args := [d1, d2] }
  | _ => none }
def insMovesRow : OpenClaim := { program := "ytheealjhmndbgaadoor", sum := "b75db0ee7ab145560e4b2d27c8c510f09e0196796af7fdbb6dc12233ade185c3", func := "rhyton/rhytonlaw10.InsMoves", spec := "insMoves", inPlace := ["math/bits.Sub64", "internal/abi.NoEscape", "internal/bytealg.MakeNoZero"], named := ["rhyton/ins.operations", "math/bits.divideError", "math/bits.overflowError"], apart := false, laid := [("rhyton/ins.operations", laid_rhyton_ins_operations)] }
def InsMovesSaid : Prop := insMovesRow.holds Tryd.pinned (OpenSpec.ofChange insMovesSpec)

/-- ITS FALSE NEIGHBOUR: 'it returns false'. Refute it at one input. -/
def insMovesWrong : ChangeSpec := { name := "insMoves", fn := fun _ => fun
  | [d1, d2] => { results := [.lit (.bool false)], args := [d1, d2] }
  | _ => none }
def InsMovesWrongFalsely : Prop := insMovesRow.holds Tryd.pinned (OpenSpec.ofChange insMovesWrong)

/-- 'rhytonlaw10.InsLoops': WHATEVER THE INPUT: true; the input reads as it did. -/
def insLoopsSpec : ChangeSpec := { name := "insLoops", fn := fun _ => fun
  | [d1, d2] => { results := [.lit (.bool true)], args := [d1, d2] }
  | _ => none }
def insLoopsRow : OpenClaim := { program := "ytheealjhmndbgaadoor", sum := "b75db0ee7ab145560e4b2d27c8c510f09e0196796af7fdbb6dc12233ade185c3", func := "rhyton/rhytonlaw10.InsLoops", spec := "insLoops", inPlace := ["math/bits.Sub64", "internal/abi.NoEscape", "internal/bytealg.MakeNoZero"], named := ["rhyton/ins.operations", "math/bits.divideError", "math/bits.overflowError"], apart := false, laid := [("rhyton/ins.operations", laid_rhyton_ins_operations)] }
def InsLoopsSaid : Prop := insLoopsRow.holds Tryd.pinned (OpenSpec.ofChange insLoopsSpec)

/-- ITS FALSE NEIGHBOUR: 'it returns false'. Refute it at one input. -/
def insLoopsWrong : ChangeSpec := { name := "insLoops", fn := fun _ => fun
  | [d1, d2] => { results := [.lit (.bool false)], args := [d1, d2] }
  | _ => none }
def InsLoopsWrongFalsely : Prop := insLoopsRow.holds Tryd.pinned (OpenSpec.ofChange insLoopsWrong)

/-- 'rhytonlaw10.InsBounds': WHATEVER THE INPUT: true; the input reads as it did. -/
def insBoundsSpec : ChangeSpec := { name := "insBounds", fn := fun _ => fun
  | [d1, d2, d3] => { results := [.lit (.bool true)], args := [d1, d2, d3] }
  | _ => none }
def insBoundsRow : OpenClaim := { program := "ytheealjhmndbgaadoor", sum := "b75db0ee7ab145560e4b2d27c8c510f09e0196796af7fdbb6dc12233ade185c3", func := "rhyton/rhytonlaw10.InsBounds", spec := "insBounds", inPlace := ["math/bits.Sub64", "internal/abi.NoEscape", "internal/bytealg.MakeNoZero"], named := ["rhyton/ins.operations", "math/bits.divideError", "math/bits.overflowError"], apart := false, laid := [("rhyton/ins.operations", laid_rhyton_ins_operations)] }
def InsBoundsSaid : Prop := insBoundsRow.holds Tryd.pinned (OpenSpec.ofChange insBoundsSpec)

/-- ITS FALSE NEIGHBOUR: 'it returns false'. Refute it at one input. -/
def insBoundsWrong : ChangeSpec := { name := "insBounds", fn := fun _ => fun
  | [d1, d2, d3] => { results := [.lit (.bool false)], args := [d1, d2, d3] }
  | _ => none }
def InsBoundsWrongFalsely : Prop := insBoundsRow.holds Tryd.pinned (OpenSpec.ofChange insBoundsWrong)

/-- 'rhytonlaw10.InsJumps': WHATEVER THE INPUT: true; the input reads as it did. -/
def insJumpsSpec : ChangeSpec := { name := "insJumps", fn := fun _ => fun
  | [d1, d2] => { results := [.lit (.bool true)], args := [d1, d2] }
  | _ => none }
def insJumpsRow : OpenClaim := { program := "ytheealjhmndbgaadoor", sum := "b75db0ee7ab145560e4b2d27c8c510f09e0196796af7fdbb6dc12233ade185c3", func := "rhyton/rhytonlaw10.InsJumps", spec := "insJumps", inPlace := ["math/bits.Sub64", "internal/abi.NoEscape", "internal/bytealg.MakeNoZero"], named := ["rhyton/ins.operations", "math/bits.divideError", "math/bits.overflowError"], apart := false, laid := [("rhyton/ins.operations", laid_rhyton_ins_operations)] }
def InsJumpsSaid : Prop := insJumpsRow.holds Tryd.pinned (OpenSpec.ofChange insJumpsSpec)

/-- ITS FALSE NEIGHBOUR: 'it returns false'. Refute it at one input. -/
def insJumpsWrong : ChangeSpec := { name := "insJumps", fn := fun _ => fun
  | [d1, d2] => { results := [.lit (.bool false)], args := [d1, d2] }
  | _ => none }
def InsJumpsWrongFalsely : Prop := insJumpsRow.holds Tryd.pinned (OpenSpec.ofChange insJumpsWrong)

/- THE SECOND FORM. 'bulk': how many values and letters a reading holds, each counted each time it is reached (what is shared counts as often as it is met; a slice's spare places count too). A statement '..UptoSaid' is the law's where the arguments, and the package variables that the reading takes, are together of bulk at most 1048576: NARROWER than '..Said'. Prove '..Said' where nothing that the law and all that it calls make is longer than what came in: it says more and counts as full. Else prove '..UptoSaid'. A law counts once. -/
mutual
def uptoBulk {H : Type} : DataW H → Nat
  | .lit (.string bytes) => bytes.length + 1
  | .lit _ => 1
  | .nil => 1
  | .ptr d => uptoBulk d + 1
  | .slice elems spare => uptoBulkAll elems + uptoBulkAll spare + 1
  | .agg parts => uptoBulkAll parts + 1
  | .iface _ d => uptoBulk d + 1
  | .map entries => uptoBulkEntries entries + 1
  | .held _ => 1
def uptoBulkAll {H : Type} : List (DataW H) → Nat
  | [] => 0
  | d :: r => uptoBulk d + uptoBulkAll r
def uptoBulkEntries {H : Type} : List (Lit × DataW H) → Nat
  | [] => 0
  | x :: r => uptoBulkEntry x + uptoBulkEntries r
def uptoBulkEntry {H : Type} : Lit × DataW H → Nat
  | (.string bytes, d) => bytes.length + uptoBulk d + 1
  | (_, d) => uptoBulk d + 1
 end
def uptoSmall : (H : Type) → List (DataW H) → Bool := fun _ ds => decide (uptoBulkAll ds ≤ 1048576)
def OpenSpec.upto (s : _root_.Go.ChangeSpec) : _root_.Go.OpenSpec := { _root_.Go.OpenSpec.ofChange s with cond := some uptoSmall }

/-- 'rhytonlaw10.InsMay', WHERE WHAT IT READS IS OF BULK AT MOST 1048576: true; the input reads as it did. -/
def insMayUptoRow : OpenClaim := { program := "ytheealjhmndbgaadoor", sum := "b75db0ee7ab145560e4b2d27c8c510f09e0196796af7fdbb6dc12233ade185c3", func := "rhyton/rhytonlaw10.InsMay", spec := "insMay", inPlace := ["math/bits.Sub64", "internal/abi.NoEscape", "internal/bytealg.MakeNoZero"], named := ["rhyton/ins.operations", "math/bits.divideError", "math/bits.overflowError"], apart := false, laid := [("rhyton/ins.operations", laid_rhyton_ins_operations)], narrowed := true }
def InsMayUptoSaid : Prop := insMayUptoRow.holds Tryd.pinned (OpenSpec.upto insMaySpec)

/-- 'rhytonlaw10.InsTexts', WHERE WHAT IT READS IS OF BULK AT MOST 1048576: true; the input reads as it did. -/
def insTextsUptoRow : OpenClaim := { program := "ytheealjhmndbgaadoor", sum := "b75db0ee7ab145560e4b2d27c8c510f09e0196796af7fdbb6dc12233ade185c3", func := "rhyton/rhytonlaw10.InsTexts", spec := "insTexts", inPlace := ["math/bits.Sub64", "internal/abi.NoEscape", "internal/bytealg.MakeNoZero"], named := ["rhyton/ins.operations", "math/bits.divideError", "math/bits.overflowError"], apart := false, laid := [("rhyton/ins.operations", laid_rhyton_ins_operations)], narrowed := true }
def InsTextsUptoSaid : Prop := insTextsUptoRow.holds Tryd.pinned (OpenSpec.upto insTextsSpec)

/-- 'rhytonlaw10.InsMoves', WHERE WHAT IT READS IS OF BULK AT MOST 1048576: true; the input reads as it did. -/
def insMovesUptoRow : OpenClaim := { program := "ytheealjhmndbgaadoor", sum := "b75db0ee7ab145560e4b2d27c8c510f09e0196796af7fdbb6dc12233ade185c3", func := "rhyton/rhytonlaw10.InsMoves", spec := "insMoves", inPlace := ["math/bits.Sub64", "internal/abi.NoEscape", "internal/bytealg.MakeNoZero"], named := ["rhyton/ins.operations", "math/bits.divideError", "math/bits.overflowError"], apart := false, laid := [("rhyton/ins.operations", laid_rhyton_ins_operations)], narrowed := true }
def InsMovesUptoSaid : Prop := insMovesUptoRow.holds Tryd.pinned (OpenSpec.upto insMovesSpec)

/-- 'rhytonlaw10.InsLoops', WHERE WHAT IT READS IS OF BULK AT MOST 1048576: true; the input reads as it did. -/
def insLoopsUptoRow : OpenClaim := { program := "ytheealjhmndbgaadoor", sum := "b75db0ee7ab145560e4b2d27c8c510f09e0196796af7fdbb6dc12233ade185c3", func := "rhyton/rhytonlaw10.InsLoops", spec := "insLoops", inPlace := ["math/bits.Sub64", "internal/abi.NoEscape", "internal/bytealg.MakeNoZero"], named := ["rhyton/ins.operations", "math/bits.divideError", "math/bits.overflowError"], apart := false, laid := [("rhyton/ins.operations", laid_rhyton_ins_operations)], narrowed := true }
def InsLoopsUptoSaid : Prop := insLoopsUptoRow.holds Tryd.pinned (OpenSpec.upto insLoopsSpec)

/-- 'rhytonlaw10.InsBounds', WHERE WHAT IT READS IS OF BULK AT MOST 1048576: true; the input reads as it did. -/
def insBoundsUptoRow : OpenClaim := { program := "ytheealjhmndbgaadoor", sum := "b75db0ee7ab145560e4b2d27c8c510f09e0196796af7fdbb6dc12233ade185c3", func := "rhyton/rhytonlaw10.InsBounds", spec := "insBounds", inPlace := ["math/bits.Sub64", "internal/abi.NoEscape", "internal/bytealg.MakeNoZero"], named := ["rhyton/ins.operations", "math/bits.divideError", "math/bits.overflowError"], apart := false, laid := [("rhyton/ins.operations", laid_rhyton_ins_operations)], narrowed := true }
def InsBoundsUptoSaid : Prop := insBoundsUptoRow.holds Tryd.pinned (OpenSpec.upto insBoundsSpec)

/-- 'rhytonlaw10.InsJumps', WHERE WHAT IT READS IS OF BULK AT MOST 1048576: true; the input reads as it did. -/
def insJumpsUptoRow : OpenClaim := { program := "ytheealjhmndbgaadoor", sum := "b75db0ee7ab145560e4b2d27c8c510f09e0196796af7fdbb6dc12233ade185c3", func := "rhyton/rhytonlaw10.InsJumps", spec := "insJumps", inPlace := ["math/bits.Sub64", "internal/abi.NoEscape", "internal/bytealg.MakeNoZero"], named := ["rhyton/ins.operations", "math/bits.divideError", "math/bits.overflowError"], apart := false, laid := [("rhyton/ins.operations", laid_rhyton_ins_operations)], narrowed := true }
def InsJumpsUptoSaid : Prop := insJumpsUptoRow.holds Tryd.pinned (OpenSpec.upto insJumpsSpec)

end Rows
end Go.Proofs.YtheealjhmndbgaaDoor
