/- Layer 2: bits.Div64, by Knuth's long division. Condition: the high word is less than the divisor. -/
import Derived.Test.YthmdobajilladaaDoorC2ProgA
import Derived.Test.YthmdobajilladaaDoorJD
import Derived.Test.YthmdobajilladaaDoorShelfBits
import Derived.Deep.DeepCutAuto
import Derived.Deep.CutBlock
namespace Go.Proofs.YthmdobajilladaaDoor
open Go.RowKit
set_option linter.unusedVariables false
theorem guess_test (Q y0 R d : Nat) (hQ : Q < 4294967296) (h0 : y0 < 4294967296) (hR : R < 4294967296) (hd : d < 4294967296) :
    ∃ P R1 R2 : Nat, IntKind.u64.wrap ((Q : Int) * (y0 : Int)) = (P : Int) ∧ IntKind.u64.wrap (4294967296 * (R : Int)) = (R1 : Int) ∧ IntKind.u64.wrap ((R1 : Int) + (d : Int)) = (R2 : Int) ∧ P = Q * y0 ∧ R2 = 4294967296 * R + d := by
  have h : Q * y0 < 4294967296 * 4294967296 := Nat.mul_lt_mul'' hQ h0
  refine ⟨Q * y0, 4294967296 * R, 4294967296 * R + d, u64_mul_nat _ _ _ (Nat.mod_eq_of_lt (by omega)), ?_, ?_, rfl, rfl⟩
  · rw [u64_wrap]; omega
  · rw [u64_wrap]; omega
end Go.Proofs.YthmdobajilladaaDoor
