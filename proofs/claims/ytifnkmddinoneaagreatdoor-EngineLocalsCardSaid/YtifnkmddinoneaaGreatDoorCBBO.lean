/- Bytes that came in as an argument: nil, or a row of cells. No condition. -/
import Derived.ProofKit
import Derived.OpenShut
import Derived.Test.YtifnkmddinoneaaGreatDoorCBAM
set_option maxRecDepth 100000
namespace Go.Proofs.YtifnkmddinoneaaGreatDoor
open Go.RowKit Go.ChangeShapes Go.WideShapes
set_option linter.unusedVariables false

/-- A slice of integers that came in: nil, or a row of numbers. -/
def RowIn (k : IntKind) (w : World) (a : Option Addr) (len cap : Nat) (zs : List Int) : Prop :=
  (a = none ∧ len = 0 ∧ cap = 0 ∧ zs = []) ∨
  ∃ x, a = some x ∧ len ≤ cap ∧ cap ≤ maxLen ∧ zs.length = cap ∧ (∀ i, i < zs.length → w.cell? (x.add i) = some (.int k (zs.getD i 0))) ∧ ∀ n ∈ zs, (Lit.int k n).wf = true
theorem add_zero_in (x : Addr) : x.add 0 = x := by unfold Addr.add; simp
theorem upto_in (W : World) (t e : TypeId) (ht : Tryz.prog.underlying t = some (.slice e)) (hz : ∀ w, (Go.sizeOf e).run Tryz.prog w = .ok 1 w) (A : Option Addr) (len cap k : Nat) (hk : k ≤ cap) :
    (Instr.sliceAt t (.slice A len cap) none (some (.int .i64 (k : Int))) none).run Tryz.prog W = .ok (.slice A k cap) W := by
  have he : Tryz.prog.elem t = e := by simp [Program.elem, ht]
  have ht' : Tryz.prog.underlying t = some (.slice (Tryz.prog.elem t)) := by rw [he]; exact ht
  rw [run_sliceAt_slice W t _ _ _ _ ht', run_slice_h W t A len cap ht' .i64 k (by omega) (by omega), he, hz]
  show Result.ok (sliced A 0 (k : Int).toNat cap 1) W = _
  unfold sliced
  have e1 : (if cap = 0 then A else A.map fun x => x.add (0 * 1)) = A := by
    split
    · rfl
    · cases A with
      | none => rfl
      | some x => show some (x.add (0 * 1)) = _; rw [Nat.zero_mul, add_zero_in]
  rw [e1, Int.toNat_natCast, Nat.sub_zero, Nat.sub_zero]
end Go.Proofs.YtifnkmddinoneaaGreatDoor
