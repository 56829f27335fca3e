/- Layer 2 (package pair): halves, products, and the division without signs. Condition: cells are integers of 64 bits. -/
import Derived.Test.YtheealjhmndbgaaDoorDiv64
namespace Go.Proofs.YtheealjhmndbgaaDoor
open Go.RowKit
set_option linter.unusedVariables false

theorem or_i64_nat (x y : Nat) (hx : x < 18446744073709551616) (hy : y < 18446744073709551616) : bits .or .i64 (wrap64 (x : Int)) (wrap64 (y : Int)) = wrap64 ((x ||| y : Nat) : Int) := by
  have e : bits .or .i64 (wrap64 (x : Int)) (wrap64 (y : Int)) = (BitVec.ofInt 64 (wrap64 (x : Int)) ||| BitVec.ofInt 64 (wrap64 (y : Int))).toInt := by
    rw [← wrap_toInt]; exact IntWalk.i64_left _
  rw [e, ofInt_wrap, ofInt_wrap, ← wrap_toInt, BitVec.toNat_or, BitVec.ofInt_natCast, BitVec.ofInt_natCast, BitVec.toNat_ofNat, BitVec.toNat_ofNat, Nat.mod_eq_of_lt (by omega), Nat.mod_eq_of_lt (by omega)]
theorem half_or (a b : Int) (ha : I64 a) (hb : I64 b) : bits .or .i64 (wrap64 (b * 9223372036854775808)) (wrap64 (U a / 2)) = lo (V a b / 2) := by
  obtain ⟨h1, h2⟩ := U_bd a
  obtain ⟨y, hy⟩ := Int.eq_ofNat_of_zero_le (show 0 ≤ U a / 2 by omega)
  have hy2 : y < 2 ^ 63 := by omega
  rw [(half_is a b ha hb).1, hy]
  rcases (show b % 2 = 0 ∨ b % 2 = 1 by omega) with hz | hz
  · have e : wrap64 (b * 9223372036854775808) = wrap64 ((0 : Nat) : Int) := by unfold wrap64; omega
    rw [e, or_i64_nat 0 y (by omega) (by omega), Nat.zero_or, hz]
    simp
  · have e : wrap64 (b * 9223372036854775808) = wrap64 ((9223372036854775808 : Nat) : Int) := by unfold wrap64; omega
    have e2 : 9223372036854775808 ||| y = 9223372036854775808 + y := by
      have := Nat.two_pow_add_eq_or_of_lt hy2 1
      simpa using this.symm
    rw [e, or_i64_nat 9223372036854775808 y (by omega) (by omega), e2, hz]
    congr 1
    omega
theorem umul_lo (X Y : Nat) : wrap64 ((X * Y % 18446744073709551616 : Nat) : Int) = lo ((X : Int) * (Y : Int)) ∧ wrap64 ((X * Y / 18446744073709551616 : Nat) : Int) = hi ((X : Int) * (Y : Int)) := by
  rw [← Int.natCast_mul]
  unfold lo hi wrap64
  omega
end Go.Proofs.YtheealjhmndbgaaDoor
