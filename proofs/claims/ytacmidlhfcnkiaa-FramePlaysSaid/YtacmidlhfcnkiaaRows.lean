/-
  No cell of these rows narrows 'for every input' (looked for: loops, veiled, ifaces, maps, wideKeys, modest, calm, conditions, laid).
  DERIVED. THE GIVEN ROWS OF THIS SEAT. 7 by the template 'for every input the law returns true; each argument reads behind the call as it read before'; 0 by the template 'total and deterministic' (their statements: YtacmidlhfcnkiaaTotals.lean).
  GIVEN WITH THE SEED: the statements are not yours to turn. If you find one false, say at which input.
  Laid BY PROGRAM, IN A SANDBOX (cutbox-rows.mjs): the forced cells as the released guide's own fill.sh prints them over the translation 74d443c366096772… (all of the seat's roots in one cut). By AI agents, Wed Nov 11 2026. No macro, syntax, notation, axiom, sorry.
-/
import Derived.Test.YtacmidlhfcnkiaaChecked
import GoSem.Claim
import GoSem.ClaimJoined
import GoSem.ClaimMapViews
import Derived.JoinedTies
import Derived.KernelRfl
namespace Go.Proofs.Ytacmidlhfcnkiaa
/- THE CELL 'sum', in the pinned program and in every row, IS THE sha256 OF THE DUMP (.gsa) THAT YtacmidlhfcnkiaaProg.lean LOADS. Nothing in Lean hashes anything: it is a label: what it is worth is what the hold of that sum in a sandbox is worth. -/
noncomputable def Try.pinned : Pinned := { name := "ytacmidlhfcnkiaa", sum := "74d443c36609677215315c8cd82939156f18b7e9c6ade98b07d20a1e56d3c134", checked := Try.checked }
namespace Rows
def none {H : Type} : Left H := { results := [], args := [] }

/-- 'rhytonlaw14.FramePlays': WHATEVER THE INPUT: true; the input reads as it did. -/
def framePlaysSpec : ChangeSpec := { name := "framePlays", fn := fun _ => fun
  | [d] => { results := [.lit (.bool true)], args := [d] }
  | _ => none }
def framePlaysRow : OpenClaim := { program := "ytacmidlhfcnkiaa", sum := "74d443c36609677215315c8cd82939156f18b7e9c6ade98b07d20a1e56d3c134", func := "rhyton/rhytonlaw14.FramePlays", spec := "framePlays", unfollowed := true, recurses := true, apart := false }
def FramePlaysSaid : Prop := framePlaysRow.holds Try.pinned (OpenSpec.ofChange framePlaysSpec)

/-- ITS FALSE NEIGHBOUR: 'it returns false'. Refute it at one input. -/
def framePlaysWrong : ChangeSpec := { name := "framePlays", fn := fun _ => fun
  | [d] => { results := [.lit (.bool false)], args := [d] }
  | _ => none }
def FramePlaysWrongFalsely : Prop := framePlaysRow.holds Try.pinned (OpenSpec.ofChange framePlaysWrong)

/-- 'rhytonlaw14.FrameLoops': WHATEVER THE INPUT: true; the input reads as it did. -/
def frameLoopsSpec : ChangeSpec := { name := "frameLoops", fn := fun _ => fun
  | [d1, d2, d3] => { results := [.lit (.bool true)], args := [d1, d2, d3] }
  | _ => none }
def frameLoopsRow : OpenClaim := { program := "ytacmidlhfcnkiaa", sum := "74d443c36609677215315c8cd82939156f18b7e9c6ade98b07d20a1e56d3c134", func := "rhyton/rhytonlaw14.FrameLoops", spec := "frameLoops", unfollowed := true, recurses := true, apart := false }
def FrameLoopsSaid : Prop := frameLoopsRow.holds Try.pinned (OpenSpec.ofChange frameLoopsSpec)

/-- ITS FALSE NEIGHBOUR: 'it returns false'. Refute it at one input. -/
def frameLoopsWrong : ChangeSpec := { name := "frameLoops", fn := fun _ => fun
  | [d1, d2, d3] => { results := [.lit (.bool false)], args := [d1, d2, d3] }
  | _ => none }
def FrameLoopsWrongFalsely : Prop := frameLoopsRow.holds Try.pinned (OpenSpec.ofChange frameLoopsWrong)

/-- 'rhytonlaw14.FrameLocals': WHATEVER THE INPUT: true; the input reads as it did. -/
def frameLocalsSpec : ChangeSpec := { name := "frameLocals", fn := fun _ => fun
  | [d1, d2, d3, d4, d5] => { results := [.lit (.bool true)], args := [d1, d2, d3, d4, d5] }
  | _ => none }
def frameLocalsRow : OpenClaim := { program := "ytacmidlhfcnkiaa", sum := "74d443c36609677215315c8cd82939156f18b7e9c6ade98b07d20a1e56d3c134", func := "rhyton/rhytonlaw14.FrameLocals", spec := "frameLocals", unfollowed := true, recurses := true, apart := false }
def FrameLocalsSaid : Prop := frameLocalsRow.holds Try.pinned (OpenSpec.ofChange frameLocalsSpec)

/-- ITS FALSE NEIGHBOUR: 'it returns false'. Refute it at one input. -/
def frameLocalsWrong : ChangeSpec := { name := "frameLocals", fn := fun _ => fun
  | [d1, d2, d3, d4, d5] => { results := [.lit (.bool false)], args := [d1, d2, d3, d4, d5] }
  | _ => none }
def FrameLocalsWrongFalsely : Prop := frameLocalsRow.holds Try.pinned (OpenSpec.ofChange frameLocalsWrong)

/-- 'rhytonlaw14.FrameCatches': WHATEVER THE INPUT: true; the input reads as it did. -/
def frameCatchesSpec : ChangeSpec := { name := "frameCatches", fn := fun _ => fun
  | [d1, d2] => { results := [.lit (.bool true)], args := [d1, d2] }
  | _ => none }
def frameCatchesRow : OpenClaim := { program := "ytacmidlhfcnkiaa", sum := "74d443c36609677215315c8cd82939156f18b7e9c6ade98b07d20a1e56d3c134", func := "rhyton/rhytonlaw14.FrameCatches", spec := "frameCatches", unfollowed := true, recurses := true, apart := false }
def FrameCatchesSaid : Prop := frameCatchesRow.holds Try.pinned (OpenSpec.ofChange frameCatchesSpec)

/-- ITS FALSE NEIGHBOUR: 'it returns false'. Refute it at one input. -/
def frameCatchesWrong : ChangeSpec := { name := "frameCatches", fn := fun _ => fun
  | [d1, d2] => { results := [.lit (.bool false)], args := [d1, d2] }
  | _ => none }
def FrameCatchesWrongFalsely : Prop := frameCatchesRow.holds Try.pinned (OpenSpec.ofChange frameCatchesWrong)

/-- 'rhytonlaw14.FrameEnds': WHATEVER THE INPUT: true; the input reads as it did. -/
def frameEndsSpec : ChangeSpec := { name := "frameEnds", fn := fun _ => fun
  | [d1, d2, d3] => { results := [.lit (.bool true)], args := [d1, d2, d3] }
  | _ => none }
def frameEndsRow : OpenClaim := { program := "ytacmidlhfcnkiaa", sum := "74d443c36609677215315c8cd82939156f18b7e9c6ade98b07d20a1e56d3c134", func := "rhyton/rhytonlaw14.FrameEnds", spec := "frameEnds", unfollowed := true, recurses := true, apart := false }
def FrameEndsSaid : Prop := frameEndsRow.holds Try.pinned (OpenSpec.ofChange frameEndsSpec)

/-- ITS FALSE NEIGHBOUR: 'it returns false'. Refute it at one input. -/
def frameEndsWrong : ChangeSpec := { name := "frameEnds", fn := fun _ => fun
  | [d1, d2, d3] => { results := [.lit (.bool false)], args := [d1, d2, d3] }
  | _ => none }
def FrameEndsWrongFalsely : Prop := frameEndsRow.holds Try.pinned (OpenSpec.ofChange frameEndsWrong)

/-- 'rhytonlaw14.FrameRows': WHATEVER THE INPUT: true; the input reads as it did. -/
def frameRowsSpec : ChangeSpec := { name := "frameRows", fn := fun _ => fun
  | [d1, d2] => { results := [.lit (.bool true)], args := [d1, d2] }
  | _ => none }
def frameRowsRow : OpenClaim := { program := "ytacmidlhfcnkiaa", sum := "74d443c36609677215315c8cd82939156f18b7e9c6ade98b07d20a1e56d3c134", func := "rhyton/rhytonlaw14.FrameRows", spec := "frameRows", apart := false }
def FrameRowsSaid : Prop := frameRowsRow.holds Try.pinned (OpenSpec.ofChange frameRowsSpec)

/-- ITS FALSE NEIGHBOUR: 'it returns false'. Refute it at one input. -/
def frameRowsWrong : ChangeSpec := { name := "frameRows", fn := fun _ => fun
  | [d1, d2] => { results := [.lit (.bool false)], args := [d1, d2] }
  | _ => none }
def FrameRowsWrongFalsely : Prop := frameRowsRow.holds Try.pinned (OpenSpec.ofChange frameRowsWrong)

/-- 'rhytonlaw14.FrameNests': WHATEVER THE INPUT: true; the input reads as it did. -/
def frameNestsSpec : ChangeSpec := { name := "frameNests", fn := fun _ => fun
  | [d1, d2] => { results := [.lit (.bool true)], args := [d1, d2] }
  | _ => none }
def frameNestsRow : OpenClaim := { program := "ytacmidlhfcnkiaa", sum := "74d443c36609677215315c8cd82939156f18b7e9c6ade98b07d20a1e56d3c134", func := "rhyton/rhytonlaw14.FrameNests", spec := "frameNests", unfollowed := true, recurses := true, apart := false }
def FrameNestsSaid : Prop := frameNestsRow.holds Try.pinned (OpenSpec.ofChange frameNestsSpec)

/-- ITS FALSE NEIGHBOUR: 'it returns false'. Refute it at one input. -/
def frameNestsWrong : ChangeSpec := { name := "frameNests", fn := fun _ => fun
  | [d1, d2] => { results := [.lit (.bool false)], args := [d1, d2] }
  | _ => none }
def FrameNestsWrongFalsely : Prop := frameNestsRow.holds Try.pinned (OpenSpec.ofChange frameNestsWrong)

/- THE SECOND FORM. 'bulk': how many values and letters a reading holds, each counted each time it is reached (what is shared counts as often as it is met; a slice's spare places count too). A statement '..UptoSaid' is the law's where the arguments, and the package variables that the reading takes, are together of bulk at most 1048576: NARROWER than '..Said'. Prove '..Said' where nothing that the law and all that it calls make is longer than what came in: it says more and counts as full. Else prove '..UptoSaid'. A law counts once. -/
mutual
def uptoBulk {H : Type} : DataW H → Nat
  | .lit (.string bytes) => bytes.length + 1
  | .lit _ => 1
  | .nil => 1
  | .ptr d => uptoBulk d + 1
  | .slice elems spare => uptoBulkAll elems + uptoBulkAll spare + 1
  | .agg parts => uptoBulkAll parts + 1
  | .iface _ d => uptoBulk d + 1
  | .map entries => uptoBulkEntries entries + 1
  | .held _ => 1
def uptoBulkAll {H : Type} : List (DataW H) → Nat
  | [] => 0
  | d :: r => uptoBulk d + uptoBulkAll r
def uptoBulkEntries {H : Type} : List (Lit × DataW H) → Nat
  | [] => 0
  | x :: r => uptoBulkEntry x + uptoBulkEntries r
def uptoBulkEntry {H : Type} : Lit × DataW H → Nat
  | (.string bytes, d) => bytes.length + uptoBulk d + 1
  | (_, d) => uptoBulk d + 1
 end
def uptoSmall : (H : Type) → List (DataW H) → Bool := fun _ ds => decide (uptoBulkAll ds ≤ 1048576)
def OpenSpec.upto (s : _root_.Go.ChangeSpec) : _root_.Go.OpenSpec := { _root_.Go.OpenSpec.ofChange s with cond := some uptoSmall }

/-- 'rhytonlaw14.FramePlays', WHERE WHAT IT READS IS OF BULK AT MOST 1048576: true; the input reads as it did. -/
def framePlaysUptoRow : OpenClaim := { program := "ytacmidlhfcnkiaa", sum := "74d443c36609677215315c8cd82939156f18b7e9c6ade98b07d20a1e56d3c134", func := "rhyton/rhytonlaw14.FramePlays", spec := "framePlays", unfollowed := true, recurses := true, apart := false, narrowed := true }
def FramePlaysUptoSaid : Prop := framePlaysUptoRow.holds Try.pinned (OpenSpec.upto framePlaysSpec)

/-- 'rhytonlaw14.FrameLoops', WHERE WHAT IT READS IS OF BULK AT MOST 1048576: true; the input reads as it did. -/
def frameLoopsUptoRow : OpenClaim := { program := "ytacmidlhfcnkiaa", sum := "74d443c36609677215315c8cd82939156f18b7e9c6ade98b07d20a1e56d3c134", func := "rhyton/rhytonlaw14.FrameLoops", spec := "frameLoops", unfollowed := true, recurses := true, apart := false, narrowed := true }
def FrameLoopsUptoSaid : Prop := frameLoopsUptoRow.holds Try.pinned (OpenSpec.upto frameLoopsSpec)

/-- 'rhytonlaw14.FrameLocals', WHERE WHAT IT READS IS OF BULK AT MOST 1048576: true; the input reads as it did. -/
def frameLocalsUptoRow : OpenClaim := { program := "ytacmidlhfcnkiaa", sum := "74d443c36609677215315c8cd82939156f18b7e9c6ade98b07d20a1e56d3c134", func := "rhyton/rhytonlaw14.FrameLocals", spec := "frameLocals", unfollowed := true, recurses := true, apart := false, narrowed := true }
def FrameLocalsUptoSaid : Prop := frameLocalsUptoRow.holds Try.pinned (OpenSpec.upto frameLocalsSpec)

/-- 'rhytonlaw14.FrameCatches', WHERE WHAT IT READS IS OF BULK AT MOST 1048576: true; the input reads as it did. -/
def frameCatchesUptoRow : OpenClaim := { program := "ytacmidlhfcnkiaa", sum := "74d443c36609677215315c8cd82939156f18b7e9c6ade98b07d20a1e56d3c134", func := "rhyton/rhytonlaw14.FrameCatches", spec := "frameCatches", unfollowed := true, recurses := true, apart := false, narrowed := true }
def FrameCatchesUptoSaid : Prop := frameCatchesUptoRow.holds Try.pinned (OpenSpec.upto frameCatchesSpec)

/-- 'rhytonlaw14.FrameEnds', WHERE WHAT IT READS IS OF BULK AT MOST 1048576: true; the input reads as it did. -/
def frameEndsUptoRow : OpenClaim := { program := "ytacmidlhfcnkiaa", sum := "74d443c36609677215315c8cd82939156f18b7e9c6ade98b07d20a1e56d3c134", func := "rhyton/rhytonlaw14.FrameEnds", spec := "frameEnds", unfollowed := true, recurses := true, apart := false, narrowed := true }
def FrameEndsUptoSaid : Prop := frameEndsUptoRow.holds Try.pinned (OpenSpec.upto frameEndsSpec)

/-- 'rhytonlaw14.FrameRows', WHERE WHAT IT READS IS OF BULK AT MOST 1048576: true; the input reads as it did. -/
def frameRowsUptoRow : OpenClaim := { program := "ytacmidlhfcnkiaa", sum := "74d443c36609677215315c8cd82939156f18b7e9c6ade98b07d20a1e56d3c134", func := "rhyton/rhytonlaw14.FrameRows", spec := "frameRows", apart := false, narrowed := true }
def FrameRowsUptoSaid : Prop := frameRowsUptoRow.holds Try.pinned (OpenSpec.upto frameRowsSpec)

/-- 'rhytonlaw14.FrameNests', WHERE WHAT IT READS IS OF BULK AT MOST 1048576: true; the input reads as it did. -/
def frameNestsUptoRow : OpenClaim := { program := "ytacmidlhfcnkiaa", sum := "74d443c36609677215315c8cd82939156f18b7e9c6ade98b07d20a1e56d3c134", func := "rhyton/rhytonlaw14.FrameNests", spec := "frameNests", unfollowed := true, recurses := true, apart := false, narrowed := true }
def FrameNestsUptoSaid : Prop := frameNestsUptoRow.holds Try.pinned (OpenSpec.upto frameNestsSpec)

end Rows
end Go.Proofs.Ytacmidlhfcnkiaa
