/- Plain arithmetic on integers modulo 2 to the 64, their bits and quotients. No Go text is spoken of. -/
import Derived.Test.YtacmidlhfcnkiaaC1Base
namespace Go.Proofs.Ytacmidlhfcnkiaa
open Go.RowKit
set_option linter.unusedVariables false

def I64 (a : Int) : Prop := -9223372036854775808 ≤ a ∧ a ≤ 9223372036854775807
theorem i64_of_wf {a : Int} (h : (Lit.int .i64 a).wf = true) : I64 a := by
  simpa [I64, Lit.wf, IntKind.min, IntKind.max, IntKind.signed, IntKind.bits] using h
theorem i64_wrap (a : Int) : I64 (wrap64 a) := by unfold I64 wrap64; omega
theorem wrap_id {a : Int} (h : I64 a) : wrap64 a = a := IntWalk.wrap64_in a h
theorem wrap_wrap (a : Int) : wrap64 (wrap64 a) = wrap64 a := wrap_id (i64_wrap a)
theorem wrap_is (a : Int) : ∃ k, wrap64 a = a + 18446744073709551616 * k := ⟨-((a + 9223372036854775808) / 18446744073709551616), by unfold wrap64; omega⟩
theorem wrap_off (a k : Int) : wrap64 (a + 18446744073709551616 * k) = wrap64 a := by unfold wrap64; omega
theorem wrap_add_l (a b : Int) : wrap64 (wrap64 a + b) = wrap64 (a + b) := by
  obtain ⟨k, hk⟩ := wrap_is a
  rw [hk, show a + 18446744073709551616 * k + b = (a + b) + 18446744073709551616 * k from by omega, wrap_off]
theorem wrap_add_r (a b : Int) : wrap64 (a + wrap64 b) = wrap64 (a + b) := by rw [Int.add_comm, wrap_add_l, Int.add_comm]
theorem wrap_sub_l (a b : Int) : wrap64 (wrap64 a - b) = wrap64 (a - b) := by
  obtain ⟨k, hk⟩ := wrap_is a
  rw [hk, show a + 18446744073709551616 * k - b = (a - b) + 18446744073709551616 * k from by omega, wrap_off]
theorem wrap_sub_r (a b : Int) : wrap64 (a - wrap64 b) = wrap64 (a - b) := by
  obtain ⟨k, hk⟩ := wrap_is b
  rw [hk, show a - (b + 18446744073709551616 * k) = (a - b) + 18446744073709551616 * (-k) from by omega, wrap_off]
theorem wrap_neg (b : Int) : wrap64 (-wrap64 b) = wrap64 (-b) := by
  have := wrap_sub_r 0 b
  simpa using this
theorem wrap_mul_l (a b : Int) : wrap64 (wrap64 a * b) = wrap64 (a * b) := by
  obtain ⟨k, hk⟩ := wrap_is a
  rw [hk, show (a + 18446744073709551616 * k) * b = a * b + 18446744073709551616 * (k * b) from by rw [Int.add_mul, Int.mul_assoc], wrap_off]
theorem wrap_mul_r (a b : Int) : wrap64 (a * wrap64 b) = wrap64 (a * b) := by rw [Int.mul_comm, wrap_mul_l, Int.mul_comm]

theorem tdiv_bd (a b : Int) (ha : I64 a) (hb : b ≠ 0) (h1 : b ≠ -1) : I64 (a.tdiv b) := by
  unfold I64 at *
  have h2 := Int.tdiv_mul_add_tmod a b
  by_cases hp : 0 < b
  · have h3 : (a.tdiv b).natAbs ≤ a.natAbs := by rw [Int.natAbs_tdiv]; exact Nat.div_le_self _ _
    by_cases h4 : b = 1
    · subst h4; simp; omega
    · have h5 : (a.tdiv b).natAbs ≤ a.natAbs / 2 := by
        rw [Int.natAbs_tdiv]
        exact Nat.div_le_div_left (by omega) (by omega)
      omega
  · have h5 : (a.tdiv b).natAbs ≤ a.natAbs / 2 := by
      rw [Int.natAbs_tdiv]
      exact Nat.div_le_div_left (by omega) (by omega)
    omega

theorem tmod_bd (a b : Int) (hb : b ≠ 0) : (a.tmod b).natAbs < b.natAbs := by
  rw [Int.natAbs_tmod]; exact Nat.mod_lt _ (by omega)
theorem tmod_sign (a b : Int) : (0 ≤ a → 0 ≤ a.tmod b) ∧ (a ≤ 0 → a.tmod b ≤ 0) := by
  refine ⟨fun h => Int.tmod_nonneg _ h, fun h => ?_⟩
  have h1 := Int.tmod_nonneg b (a := -a) (by omega)
  rw [Int.neg_tmod] at h1
  omega
theorem tmod_le (a b : Int) : (a.tmod b).natAbs ≤ a.natAbs := by rw [Int.natAbs_tmod]; exact Nat.mod_le _ _

theorem wrap_bmod (n : Int) : wrap64 n = n.bmod (2 ^ 64) := by
  unfold wrap64
  rw [Int.bmod_def]
  simp only [Nat.reducePow]
  split <;> omega
theorem wrap_toInt (x : BitVec 64) : wrap64 (x.toNat : Int) = x.toInt := by rw [wrap_bmod, BitVec.toInt_eq_toNat_bmod]
theorem ofInt_wrap (n : Int) : BitVec.ofInt 64 (wrap64 n) = BitVec.ofInt 64 n := by
  apply BitVec.eq_of_toInt_eq
  rw [BitVec.toInt_ofInt, BitVec.toInt_ofInt, ← wrap_bmod, ← wrap_bmod, wrap_wrap]
theorem toInt_ofInt64 {a : Int} (h : I64 a) : (BitVec.ofInt 64 a).toInt = a := by rw [BitVec.toInt_ofInt, ← wrap_bmod, wrap_id h]
theorem exists_bv {a : Int} (h : I64 a) : ∃ x : BitVec 64, a = x.toInt := ⟨BitVec.ofInt 64 a, (toInt_ofInt64 h).symm⟩
theorem bv_i64 (x : BitVec 64) : I64 x.toInt := by rw [← wrap_toInt]; exact i64_wrap _

theorem u64_wrap (a : Int) : IntKind.u64.wrap a = a % 18446744073709551616 := by simp [IntKind.wrap, IntKind.bits, IntKind.signed]
theorem wrap_top (a : Int) (n : Nat) (h : 64 ≤ n) : wrap64 (a * 2 ^ n) = 0 := by
  obtain ⟨m, rfl⟩ : ∃ m, n = m + 64 := ⟨n - 64, by omega⟩
  rw [Int.pow_add, ← Int.mul_assoc, show ((2 : Int) ^ 64) = 18446744073709551616 from by decide, Int.mul_comm _ 18446744073709551616, show 18446744073709551616 * (a * 2 ^ m) = 0 + 18446744073709551616 * (a * 2 ^ m) from by omega, wrap_off]
  decide +kernel
theorem u64_of_wrap (t : Int) (h0 : 0 ≤ t) (h1 : t < 18446744073709551616) : IntKind.u64.wrap (wrap64 t) = t := by
  rw [u64_wrap]; unfold wrap64; omega
theorem part_bd (A : Int) (n : Nat) (h0 : 0 ≤ A) (h1 : A < 18446744073709551616) : 0 ≤ A / 2 ^ n ∧ A / 2 ^ n < 18446744073709551616 := by
  have hp : (0 : Int) < 2 ^ n := Int.pow_pos (by decide)
  exact ⟨Int.ediv_nonneg h0 (by omega), Int.lt_of_le_of_lt (Int.ediv_le_self _ h0) h1⟩
theorem part_top (A : Int) (n : Nat) (hn : 64 ≤ n) (h0 : 0 ≤ A) (h1 : A < 18446744073709551616) : A / 2 ^ n = 0 := by
  refine Int.ediv_eq_zero_of_lt h0 (Int.lt_of_lt_of_le h1 ?_)
  have : (2 : Int) ^ 64 ≤ 2 ^ n := by
    obtain ⟨m, rfl⟩ : ∃ m, n = 64 + m := ⟨n - 64, by omega⟩
    have hp : (0 : Int) < 2 ^ m := Int.pow_pos (by decide)
    rw [Int.pow_add]
    calc (2 : Int) ^ 64 = 2 ^ 64 * 1 := by rw [Int.mul_one]
      _ ≤ 2 ^ 64 * 2 ^ m := Int.mul_le_mul_of_nonneg_left (by omega) (by decide)
  exact this
def natOf (a : Int) : Nat := (IntKind.u64.wrap a).toNat
theorem natOf_is (a : Int) : IntKind.u64.wrap a = (natOf a : Int) := by unfold natOf; rw [u64_wrap]; omega
theorem natOf_lt (a : Int) : natOf a < 18446744073709551616 := by unfold natOf; rw [u64_wrap]; omega

theorem ret_i64 {a b : Int} (h : a = b) : Ending.returned (.int .i64 a) = .returned (.int .i64 b) := by rw [h]
theorem v_i64 {a b : Int} (h : a = b) : Value.int .i64 a = Value.int .i64 b := by rw [h]
theorem v_u64 {a b : Int} (h : a = b) : Value.int .u64 a = Value.int .u64 b := by rw [h]
theorem i64_bd {a : Int} (h : I64 a) : -9223372036854775808 ≤ a ∧ a ≤ 9223372036854775807 := h
end Go.Proofs.Ytacmidlhfcnkiaa
