/- Layer 2 (package pair): the three divisions. Condition: cells are integers of 64 bits. -/
import Derived.Test.YtheealjhmndbgaaDoorC2ProgD
namespace Go.Proofs.YtheealjhmndbgaaDoor
open Go.RowKit
set_option linter.unusedVariables false

/-- Is an integer a cell? -/
def cel (q : Int) : Bool := decide (-9223372036854775808 ≤ q ∧ q ≤ 9223372036854775807)
theorem cel_yes {q : Int} (h : cel q = true) : I64 q := by unfold cel at h; simpa [I64] using h
theorem cel_no {q : Int} (h : cel q = false) : ¬ I64 q := by unfold cel at h; simpa [I64] using h
theorem cel_of {q : Int} (h : I64 q) : cel q = true := by unfold cel; simpa [I64] using h
/-- What a division tells: nothing by 0, nothing beyond; its code. -/
def okR (z ok : Bool) (r : Int) : Int := if z then 0 else if ok then r else 0
def okE (z ok : Bool) : Int := if z then -10 else if ok then 0 else -11
theorem in_range (q : Int) (h0 : -170141183460469231731687303715884105728 ≤ q) (h1 : q ≤ 170141183460469231731687303715884105728) :
    (lo q == lo (lo q) && hi q == hi (lo q)) = cel q := by
  rw [fits_is (lo q) (hi q) (lo_i64 q) (hi_i64 q), cel]
  rw [decide_eq_decide]
  unfold V U lo hi wrap64
  omega
theorem trunc_bd (v b : Int) (hv : -170141183460469231731687303715884105728 ≤ v ∧ v ≤ 170141183460469231731687303715884105727) : -170141183460469231731687303715884105728 ≤ v.tdiv b ∧ v.tdiv b ≤ 170141183460469231731687303715884105728 := by
  have h : (v.tdiv b).natAbs ≤ v.natAbs := by rw [Int.natAbs_tdiv]; exact Nat.div_le_self _ _
  omega
end Go.Proofs.YtheealjhmndbgaaDoor
