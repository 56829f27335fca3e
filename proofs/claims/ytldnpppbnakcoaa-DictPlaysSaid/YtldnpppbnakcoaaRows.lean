/-
  No cell of these rows narrows 'for every input' (looked for: loops, veiled, ifaces, maps, wideKeys, modest, calm, conditions, laid).
  DERIVED. THE GIVEN ROWS OF THIS SEAT. 6 by the template 'for every input the law returns true; each argument reads behind the call as it read before'; 0 by the template 'total and deterministic' (their statements: YtldnpppbnakcoaaTotals.lean).
  GIVEN WITH THE SEED: the statements are not yours to turn. If you find one false, say at which input.
  Laid BY PROGRAM, IN A SANDBOX (cutbox-rows.mjs): the forced cells as the released guide's own fill.sh prints them over the translation b4b36ced1c63dc69… (all of the seat's roots in one cut). By AI agents, Wed Nov 11 2026. No macro, syntax, notation, axiom, sorry.
-/
import Derived.Test.YtldnpppbnakcoaaChecked
import GoSem.Claim
import GoSem.ClaimJoined
import GoSem.ClaimMapViews
import Derived.JoinedTies
import Derived.KernelRfl
namespace Go.Proofs.Ytldnpppbnakcoaa
/- THE CELL 'sum', in the pinned program and in every row, IS THE sha256 OF THE DUMP (.gsa) THAT YtldnpppbnakcoaaProg.lean LOADS. Nothing in Lean hashes anything: it is a label: what it is worth is what the hold of that sum in a sandbox is worth. -/
noncomputable def Try.pinned : Pinned := { name := "ytldnpppbnakcoaa", sum := "b4b36ced1c63dc69f4a2bb9ec1b3373ed90791b0c65a59f98a6f49a48cea90cb", checked := Try.checked }
namespace Rows
def none {H : Type} : Left H := { results := [], args := [] }

/-- 'rhytonlaw09.DictPlays': WHATEVER THE INPUT: true; the input reads as it did. -/
def dictPlaysSpec : ChangeSpec := { name := "dictPlays", fn := fun _ => fun
  | [d] => { results := [.lit (.bool true)], args := [d] }
  | _ => none }
def dictPlaysRow : OpenClaim := { program := "ytldnpppbnakcoaa", sum := "b4b36ced1c63dc69f4a2bb9ec1b3373ed90791b0c65a59f98a6f49a48cea90cb", func := "rhyton/rhytonlaw09.DictPlays", spec := "dictPlays", unfollowed := true, recurses := true, apart := false }
def DictPlaysSaid : Prop := dictPlaysRow.holds Try.pinned (OpenSpec.ofChange dictPlaysSpec)

/-- ITS FALSE NEIGHBOUR: 'it returns false'. Refute it at one input. -/
def dictPlaysWrong : ChangeSpec := { name := "dictPlays", fn := fun _ => fun
  | [d] => { results := [.lit (.bool false)], args := [d] }
  | _ => none }
def DictPlaysWrongFalsely : Prop := dictPlaysRow.holds Try.pinned (OpenSpec.ofChange dictPlaysWrong)

/-- 'rhytonlaw09.DictHides': WHATEVER THE INPUT: true; the input reads as it did. -/
def dictHidesSpec : ChangeSpec := { name := "dictHides", fn := fun _ => fun
  | [d1, d2, d3, d4] => { results := [.lit (.bool true)], args := [d1, d2, d3, d4] }
  | _ => none }
def dictHidesRow : OpenClaim := { program := "ytldnpppbnakcoaa", sum := "b4b36ced1c63dc69f4a2bb9ec1b3373ed90791b0c65a59f98a6f49a48cea90cb", func := "rhyton/rhytonlaw09.DictHides", spec := "dictHides", unfollowed := true, recurses := true, apart := false }
def DictHidesSaid : Prop := dictHidesRow.holds Try.pinned (OpenSpec.ofChange dictHidesSpec)

/-- ITS FALSE NEIGHBOUR: 'it returns false'. Refute it at one input. -/
def dictHidesWrong : ChangeSpec := { name := "dictHides", fn := fun _ => fun
  | [d1, d2, d3, d4] => { results := [.lit (.bool false)], args := [d1, d2, d3, d4] }
  | _ => none }
def DictHidesWrongFalsely : Prop := dictHidesRow.holds Try.pinned (OpenSpec.ofChange dictHidesWrong)

/-- 'rhytonlaw09.DictOrders': WHATEVER THE INPUT: true; the input reads as it did. -/
def dictOrdersSpec : ChangeSpec := { name := "dictOrders", fn := fun _ => fun
  | [d1, d2] => { results := [.lit (.bool true)], args := [d1, d2] }
  | _ => none }
def dictOrdersRow : OpenClaim := { program := "ytldnpppbnakcoaa", sum := "b4b36ced1c63dc69f4a2bb9ec1b3373ed90791b0c65a59f98a6f49a48cea90cb", func := "rhyton/rhytonlaw09.DictOrders", spec := "dictOrders", unfollowed := true, recurses := true, apart := false }
def DictOrdersSaid : Prop := dictOrdersRow.holds Try.pinned (OpenSpec.ofChange dictOrdersSpec)

/-- ITS FALSE NEIGHBOUR: 'it returns false'. Refute it at one input. -/
def dictOrdersWrong : ChangeSpec := { name := "dictOrders", fn := fun _ => fun
  | [d1, d2] => { results := [.lit (.bool false)], args := [d1, d2] }
  | _ => none }
def DictOrdersWrongFalsely : Prop := dictOrdersRow.holds Try.pinned (OpenSpec.ofChange dictOrdersWrong)

/-- 'rhytonlaw09.DictBack': WHATEVER THE INPUT: true; the input reads as it did. -/
def dictBackSpec : ChangeSpec := { name := "dictBack", fn := fun _ => fun
  | [d1, d2, d3] => { results := [.lit (.bool true)], args := [d1, d2, d3] }
  | _ => none }
def dictBackRow : OpenClaim := { program := "ytldnpppbnakcoaa", sum := "b4b36ced1c63dc69f4a2bb9ec1b3373ed90791b0c65a59f98a6f49a48cea90cb", func := "rhyton/rhytonlaw09.DictBack", spec := "dictBack", unfollowed := true, recurses := true, apart := false }
def DictBackSaid : Prop := dictBackRow.holds Try.pinned (OpenSpec.ofChange dictBackSpec)

/-- ITS FALSE NEIGHBOUR: 'it returns false'. Refute it at one input. -/
def dictBackWrong : ChangeSpec := { name := "dictBack", fn := fun _ => fun
  | [d1, d2, d3] => { results := [.lit (.bool false)], args := [d1, d2, d3] }
  | _ => none }
def DictBackWrongFalsely : Prop := dictBackRow.holds Try.pinned (OpenSpec.ofChange dictBackWrong)

/-- 'rhytonlaw09.DictNames': WHATEVER THE INPUT: true; the input reads as it did. -/
def dictNamesSpec : ChangeSpec := { name := "dictNames", fn := fun _ => fun
  | [d] => { results := [.lit (.bool true)], args := [d] }
  | _ => none }
def dictNamesRow : OpenClaim := { program := "ytldnpppbnakcoaa", sum := "b4b36ced1c63dc69f4a2bb9ec1b3373ed90791b0c65a59f98a6f49a48cea90cb", func := "rhyton/rhytonlaw09.DictNames", spec := "dictNames", apart := false }
def DictNamesSaid : Prop := dictNamesRow.holds Try.pinned (OpenSpec.ofChange dictNamesSpec)

/-- ITS FALSE NEIGHBOUR: 'it returns false'. Refute it at one input. -/
def dictNamesWrong : ChangeSpec := { name := "dictNames", fn := fun _ => fun
  | [d] => { results := [.lit (.bool false)], args := [d] }
  | _ => none }
def DictNamesWrongFalsely : Prop := dictNamesRow.holds Try.pinned (OpenSpec.ofChange dictNamesWrong)

/-- 'rhytonlaw09.DictLists': WHATEVER THE INPUT: true; the input reads as it did. -/
def dictListsSpec : ChangeSpec := { name := "dictLists", fn := fun _ => fun
  | [d1, d2] => { results := [.lit (.bool true)], args := [d1, d2] }
  | _ => none }
def dictListsRow : OpenClaim := { program := "ytldnpppbnakcoaa", sum := "b4b36ced1c63dc69f4a2bb9ec1b3373ed90791b0c65a59f98a6f49a48cea90cb", func := "rhyton/rhytonlaw09.DictLists", spec := "dictLists", apart := false }
def DictListsSaid : Prop := dictListsRow.holds Try.pinned (OpenSpec.ofChange dictListsSpec)

/-- ITS FALSE NEIGHBOUR: 'it returns false'. Refute it at one input. -/
def dictListsWrong : ChangeSpec := { name := "dictLists", fn := fun _ => fun
  | [d1, d2] => { results := [.lit (.bool false)], args := [d1, d2] }
  | _ => none }
def DictListsWrongFalsely : Prop := dictListsRow.holds Try.pinned (OpenSpec.ofChange dictListsWrong)

/- THE SECOND FORM. 'bulk': how many values and letters a reading holds, each counted each time it is reached (what is shared counts as often as it is met; a slice's spare places count too). A statement '..UptoSaid' is the law's where the arguments, and the package variables that the reading takes, are together of bulk at most 1048576: NARROWER than '..Said'. Prove '..Said' where nothing that the law and all that it calls make is longer than what came in: it says more and counts as full. Else prove '..UptoSaid'. A law counts once. -/
mutual
def uptoBulk {H : Type} : DataW H → Nat
  | .lit (.string bytes) => bytes.length + 1
  | .lit _ => 1
  | .nil => 1
  | .ptr d => uptoBulk d + 1
  | .slice elems spare => uptoBulkAll elems + uptoBulkAll spare + 1
  | .agg parts => uptoBulkAll parts + 1
  | .iface _ d => uptoBulk d + 1
  | .map entries => uptoBulkEntries entries + 1
  | .held _ => 1
def uptoBulkAll {H : Type} : List (DataW H) → Nat
  | [] => 0
  | d :: r => uptoBulk d + uptoBulkAll r
def uptoBulkEntries {H : Type} : List (Lit × DataW H) → Nat
  | [] => 0
  | x :: r => uptoBulkEntry x + uptoBulkEntries r
def uptoBulkEntry {H : Type} : Lit × DataW H → Nat
  | (.string bytes, d) => bytes.length + uptoBulk d + 1
  | (_, d) => uptoBulk d + 1
 end
def uptoSmall : (H : Type) → List (DataW H) → Bool := fun _ ds => decide (uptoBulkAll ds ≤ 1048576)
def OpenSpec.upto (s : _root_.Go.ChangeSpec) : _root_.Go.OpenSpec := { _root_.Go.OpenSpec.ofChange s with cond := some uptoSmall }

/-- 'rhytonlaw09.DictPlays', WHERE WHAT IT READS IS OF BULK AT MOST 1048576: true; the input reads as it did. -/
def dictPlaysUptoRow : OpenClaim := { program := "ytldnpppbnakcoaa", sum := "b4b36ced1c63dc69f4a2bb9ec1b3373ed90791b0c65a59f98a6f49a48cea90cb", func := "rhyton/rhytonlaw09.DictPlays", spec := "dictPlays", unfollowed := true, recurses := true, apart := false, narrowed := true }
def DictPlaysUptoSaid : Prop := dictPlaysUptoRow.holds Try.pinned (OpenSpec.upto dictPlaysSpec)

/-- 'rhytonlaw09.DictHides', WHERE WHAT IT READS IS OF BULK AT MOST 1048576: true; the input reads as it did. -/
def dictHidesUptoRow : OpenClaim := { program := "ytldnpppbnakcoaa", sum := "b4b36ced1c63dc69f4a2bb9ec1b3373ed90791b0c65a59f98a6f49a48cea90cb", func := "rhyton/rhytonlaw09.DictHides", spec := "dictHides", unfollowed := true, recurses := true, apart := false, narrowed := true }
def DictHidesUptoSaid : Prop := dictHidesUptoRow.holds Try.pinned (OpenSpec.upto dictHidesSpec)

/-- 'rhytonlaw09.DictOrders', WHERE WHAT IT READS IS OF BULK AT MOST 1048576: true; the input reads as it did. -/
def dictOrdersUptoRow : OpenClaim := { program := "ytldnpppbnakcoaa", sum := "b4b36ced1c63dc69f4a2bb9ec1b3373ed90791b0c65a59f98a6f49a48cea90cb", func := "rhyton/rhytonlaw09.DictOrders", spec := "dictOrders", unfollowed := true, recurses := true, apart := false, narrowed := true }
def DictOrdersUptoSaid : Prop := dictOrdersUptoRow.holds Try.pinned (OpenSpec.upto dictOrdersSpec)

/-- 'rhytonlaw09.DictBack', WHERE WHAT IT READS IS OF BULK AT MOST 1048576: true; the input reads as it did. -/
def dictBackUptoRow : OpenClaim := { program := "ytldnpppbnakcoaa", sum := "b4b36ced1c63dc69f4a2bb9ec1b3373ed90791b0c65a59f98a6f49a48cea90cb", func := "rhyton/rhytonlaw09.DictBack", spec := "dictBack", unfollowed := true, recurses := true, apart := false, narrowed := true }
def DictBackUptoSaid : Prop := dictBackUptoRow.holds Try.pinned (OpenSpec.upto dictBackSpec)

/-- 'rhytonlaw09.DictNames', WHERE WHAT IT READS IS OF BULK AT MOST 1048576: true; the input reads as it did. -/
def dictNamesUptoRow : OpenClaim := { program := "ytldnpppbnakcoaa", sum := "b4b36ced1c63dc69f4a2bb9ec1b3373ed90791b0c65a59f98a6f49a48cea90cb", func := "rhyton/rhytonlaw09.DictNames", spec := "dictNames", apart := false, narrowed := true }
def DictNamesUptoSaid : Prop := dictNamesUptoRow.holds Try.pinned (OpenSpec.upto dictNamesSpec)

/-- 'rhytonlaw09.DictLists', WHERE WHAT IT READS IS OF BULK AT MOST 1048576: true; the input reads as it did. -/
def dictListsUptoRow : OpenClaim := { program := "ytldnpppbnakcoaa", sum := "b4b36ced1c63dc69f4a2bb9ec1b3373ed90791b0c65a59f98a6f49a48cea90cb", func := "rhyton/rhytonlaw09.DictLists", spec := "dictLists", apart := false, narrowed := true }
def DictListsUptoSaid : Prop := dictListsUptoRow.holds Try.pinned (OpenSpec.upto dictListsSpec)

end Rows
end Go.Proofs.Ytldnpppbnakcoaa
