/-
  No cell of these rows narrows 'for every input' (looked for: loops, veiled, ifaces, maps, wideKeys, modest, calm, conditions, laid).
  DERIVED. THE GIVEN ROWS OF THIS SEAT. 4 by the template 'for every input the law returns true; each argument reads behind the call as it read before'; 0 by the template 'total and deterministic' (their statements: YtgmdagjaigbajaaTotals.lean).
  GIVEN WITH THE SEED: the statements are not yours to turn. If you find one false, say at which input.
  Laid BY PROGRAM, IN A SANDBOX (cutbox-rows.mjs): the forced cells as the released guide's own fill.sh prints them over the translation dde025cb6111f292… (all of the seat's roots in one cut). By AI agents, Wed Nov 11 2026. No macro, syntax, notation, axiom, sorry.
-/
import Derived.Test.YtgmdagjaigbajaaChecked
import GoSem.Claim
import GoSem.ClaimJoined
import GoSem.ClaimMapViews
import Derived.JoinedTies
import Derived.KernelRfl
namespace Go.Proofs.Ytgmdagjaigbajaa
/- THE CELL 'sum', in the pinned program and in every row, IS THE sha256 OF THE DUMP (.gsa) THAT YtgmdagjaigbajaaProg.lean LOADS. Nothing in Lean hashes anything: it is a label: what it is worth is what the hold of that sum in a sandbox is worth. -/
noncomputable def Try.pinned : Pinned := { name := "ytgmdagjaigbajaa", sum := "dde025cb6111f292dabc555bc4f1bd4d007e2fd662e198fa23fc3625a7783143", checked := Try.checked }
namespace Rows
def none {H : Type} : Left H := { results := [], args := [] }

/-- 'rhytonlaw12.TablePlays': WHATEVER THE INPUT: true; the input reads as it did. -/
def tablePlaysSpec : ChangeSpec := { name := "tablePlays", fn := fun _ => fun
  | [d1, d2, d3] => { results := [.lit (.bool true)], args := [d1, d2, d3] }
  | _ => none }
def tablePlaysRow : OpenClaim := { program := "ytgmdagjaigbajaa", sum := "dde025cb6111f292dabc555bc4f1bd4d007e2fd662e198fa23fc3625a7783143", func := "rhyton/rhytonlaw12.TablePlays", spec := "tablePlays", unfollowed := true, recurses := true, apart := false }
def TablePlaysSaid : Prop := tablePlaysRow.holds Try.pinned (OpenSpec.ofChange tablePlaysSpec)

/-- ITS FALSE NEIGHBOUR: 'it returns false'. Refute it at one input. -/
def tablePlaysWrong : ChangeSpec := { name := "tablePlays", fn := fun _ => fun
  | [d1, d2, d3] => { results := [.lit (.bool false)], args := [d1, d2, d3] }
  | _ => none }
def TablePlaysWrongFalsely : Prop := tablePlaysRow.holds Try.pinned (OpenSpec.ofChange tablePlaysWrong)

/-- 'rhytonlaw12.TableNames': WHATEVER THE INPUT: true; the input reads as it did. -/
def tableNamesSpec : ChangeSpec := { name := "tableNames", fn := fun _ => fun
  | [d1, d2, d3] => { results := [.lit (.bool true)], args := [d1, d2, d3] }
  | _ => none }
def tableNamesRow : OpenClaim := { program := "ytgmdagjaigbajaa", sum := "dde025cb6111f292dabc555bc4f1bd4d007e2fd662e198fa23fc3625a7783143", func := "rhyton/rhytonlaw12.TableNames", spec := "tableNames", unfollowed := true, recurses := true, apart := false }
def TableNamesSaid : Prop := tableNamesRow.holds Try.pinned (OpenSpec.ofChange tableNamesSpec)

/-- ITS FALSE NEIGHBOUR: 'it returns false'. Refute it at one input. -/
def tableNamesWrong : ChangeSpec := { name := "tableNames", fn := fun _ => fun
  | [d1, d2, d3] => { results := [.lit (.bool false)], args := [d1, d2, d3] }
  | _ => none }
def TableNamesWrongFalsely : Prop := tableNamesRow.holds Try.pinned (OpenSpec.ofChange tableNamesWrong)

/-- 'rhytonlaw12.TableOnly': WHATEVER THE INPUT: true; the input reads as it did. -/
def tableOnlySpec : ChangeSpec := { name := "tableOnly", fn := fun _ => fun
  | [d1, d2] => { results := [.lit (.bool true)], args := [d1, d2] }
  | _ => none }
def tableOnlyRow : OpenClaim := { program := "ytgmdagjaigbajaa", sum := "dde025cb6111f292dabc555bc4f1bd4d007e2fd662e198fa23fc3625a7783143", func := "rhyton/rhytonlaw12.TableOnly", spec := "tableOnly", unfollowed := true, recurses := true, apart := false }
def TableOnlySaid : Prop := tableOnlyRow.holds Try.pinned (OpenSpec.ofChange tableOnlySpec)

/-- ITS FALSE NEIGHBOUR: 'it returns false'. Refute it at one input. -/
def tableOnlyWrong : ChangeSpec := { name := "tableOnly", fn := fun _ => fun
  | [d1, d2] => { results := [.lit (.bool false)], args := [d1, d2] }
  | _ => none }
def TableOnlyWrongFalsely : Prop := tableOnlyRow.holds Try.pinned (OpenSpec.ofChange tableOnlyWrong)

/-- 'rhytonlaw12.TableBuilt': WHATEVER THE INPUT: true; the input reads as it did. -/
def tableBuiltSpec : ChangeSpec := { name := "tableBuilt", fn := fun _ => fun
  | [d1, d2, d3] => { results := [.lit (.bool true)], args := [d1, d2, d3] }
  | _ => none }
def tableBuiltRow : OpenClaim := { program := "ytgmdagjaigbajaa", sum := "dde025cb6111f292dabc555bc4f1bd4d007e2fd662e198fa23fc3625a7783143", func := "rhyton/rhytonlaw12.TableBuilt", spec := "tableBuilt", unfollowed := true, recurses := true, apart := false }
def TableBuiltSaid : Prop := tableBuiltRow.holds Try.pinned (OpenSpec.ofChange tableBuiltSpec)

/-- ITS FALSE NEIGHBOUR: 'it returns false'. Refute it at one input. -/
def tableBuiltWrong : ChangeSpec := { name := "tableBuilt", fn := fun _ => fun
  | [d1, d2, d3] => { results := [.lit (.bool false)], args := [d1, d2, d3] }
  | _ => none }
def TableBuiltWrongFalsely : Prop := tableBuiltRow.holds Try.pinned (OpenSpec.ofChange tableBuiltWrong)

/- THE SECOND FORM. 'bulk': how many values and letters a reading holds, each counted each time it is reached (what is shared counts as often as it is met; a slice's spare places count too). A statement '..UptoSaid' is the law's where the arguments, and the package variables that the reading takes, are together of bulk at most 1048576: NARROWER than '..Said'. Prove '..Said' where nothing that the law and all that it calls make is longer than what came in: it says more and counts as full. Else prove '..UptoSaid'. A law counts once. -/
mutual
def uptoBulk {H : Type} : DataW H → Nat
  | .lit (.string bytes) => bytes.length + 1
  | .lit _ => 1
  | .nil => 1
  | .ptr d => uptoBulk d + 1
  | .slice elems spare => uptoBulkAll elems + uptoBulkAll spare + 1
  | .agg parts => uptoBulkAll parts + 1
  | .iface _ d => uptoBulk d + 1
  | .map entries => uptoBulkEntries entries + 1
  | .held _ => 1
def uptoBulkAll {H : Type} : List (DataW H) → Nat
  | [] => 0
  | d :: r => uptoBulk d + uptoBulkAll r
def uptoBulkEntries {H : Type} : List (Lit × DataW H) → Nat
  | [] => 0
  | x :: r => uptoBulkEntry x + uptoBulkEntries r
def uptoBulkEntry {H : Type} : Lit × DataW H → Nat
  | (.string bytes, d) => bytes.length + uptoBulk d + 1
  | (_, d) => uptoBulk d + 1
 end
def uptoSmall : (H : Type) → List (DataW H) → Bool := fun _ ds => decide (uptoBulkAll ds ≤ 1048576)
def OpenSpec.upto (s : _root_.Go.ChangeSpec) : _root_.Go.OpenSpec := { _root_.Go.OpenSpec.ofChange s with cond := some uptoSmall }

/-- 'rhytonlaw12.TablePlays', WHERE WHAT IT READS IS OF BULK AT MOST 1048576: true; the input reads as it did. -/
def tablePlaysUptoRow : OpenClaim := { program := "ytgmdagjaigbajaa", sum := "dde025cb6111f292dabc555bc4f1bd4d007e2fd662e198fa23fc3625a7783143", func := "rhyton/rhytonlaw12.TablePlays", spec := "tablePlays", unfollowed := true, recurses := true, apart := false, narrowed := true }
def TablePlaysUptoSaid : Prop := tablePlaysUptoRow.holds Try.pinned (OpenSpec.upto tablePlaysSpec)

/-- 'rhytonlaw12.TableNames', WHERE WHAT IT READS IS OF BULK AT MOST 1048576: true; the input reads as it did. -/
def tableNamesUptoRow : OpenClaim := { program := "ytgmdagjaigbajaa", sum := "dde025cb6111f292dabc555bc4f1bd4d007e2fd662e198fa23fc3625a7783143", func := "rhyton/rhytonlaw12.TableNames", spec := "tableNames", unfollowed := true, recurses := true, apart := false, narrowed := true }
def TableNamesUptoSaid : Prop := tableNamesUptoRow.holds Try.pinned (OpenSpec.upto tableNamesSpec)

/-- 'rhytonlaw12.TableOnly', WHERE WHAT IT READS IS OF BULK AT MOST 1048576: true; the input reads as it did. -/
def tableOnlyUptoRow : OpenClaim := { program := "ytgmdagjaigbajaa", sum := "dde025cb6111f292dabc555bc4f1bd4d007e2fd662e198fa23fc3625a7783143", func := "rhyton/rhytonlaw12.TableOnly", spec := "tableOnly", unfollowed := true, recurses := true, apart := false, narrowed := true }
def TableOnlyUptoSaid : Prop := tableOnlyUptoRow.holds Try.pinned (OpenSpec.upto tableOnlySpec)

/-- 'rhytonlaw12.TableBuilt', WHERE WHAT IT READS IS OF BULK AT MOST 1048576: true; the input reads as it did. -/
def tableBuiltUptoRow : OpenClaim := { program := "ytgmdagjaigbajaa", sum := "dde025cb6111f292dabc555bc4f1bd4d007e2fd662e198fa23fc3625a7783143", func := "rhyton/rhytonlaw12.TableBuilt", spec := "tableBuilt", unfollowed := true, recurses := true, apart := false, narrowed := true }
def TableBuiltUptoSaid : Prop := tableBuiltUptoRow.holds Try.pinned (OpenSpec.upto tableBuiltSpec)

end Rows
end Go.Proofs.Ytgmdagjaigbajaa
