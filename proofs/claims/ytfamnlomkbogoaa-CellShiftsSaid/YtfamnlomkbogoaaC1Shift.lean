/- Plain facts on shifts of integers of 64 bits. No Go. -/
import Derived.Test.YtfamnlomkbogoaaC1Bits
namespace Go.Proofs.Ytfamnlomkbogoaa
open Go.RowKit
set_option linter.unusedVariables false

theorem sh_near (b : Int) (h0 : 0 ≤ b) (h1 : b ≤ 9223372036854775807) : min (IntKind.u64.wrap b).toNat 64 = min b.toNat 64 := by
  rw [u64_wrap, Int.emod_eq_of_lt h0 (by omega)]
theorem sh_far (b : Int) (h : I64 b) (hf : b < 0 ∨ 64 ≤ b) : min (IntKind.u64.wrap b).toNat 64 = 64 := by
  rw [u64_wrap]
  unfold I64 at h
  omega
theorem wrap_top (a : Int) (n : Nat) (h : 64 ≤ n) : wrap64 (a * 2 ^ n) = 0 := by
  obtain ⟨m, rfl⟩ : ∃ m, n = m + 64 := ⟨n - 64, by omega⟩
  rw [Int.pow_add, ← Int.mul_assoc, show ((2 : Int) ^ 64) = 18446744073709551616 from by decide, Int.mul_comm _ 18446744073709551616, show 18446744073709551616 * (a * 2 ^ m) = 0 + 18446744073709551616 * (a * 2 ^ m) from by omega, wrap_off]
  decide +kernel
theorem shl_is (a b : Int) (h0 : 0 ≤ b) (h1 : b ≤ 9223372036854775807) : shl a b = wrap64 (a * 2 ^ b.toNat) := by
  unfold shl
  rw [sh_near b h0 h1]
  by_cases h : b.toNat ≤ 64
  · rw [Nat.min_eq_left h]
  · rw [Nat.min_eq_right (by omega), wrap_top a 64 (Nat.le_refl _), wrap_top a b.toNat (by omega)]
theorem shl_add (a x y : Int) (hx : 0 ≤ x) (hx' : x < 64) (hy : 0 ≤ y) (hy' : y < 64) : shl (shl a x) y = shl a (x + y) := by
  rw [shl_is _ y hy (by omega), shl_is a x hx (by omega), shl_is a (x + y) (by omega) (by omega), wrap_mul_l, Int.mul_assoc, ← Int.pow_add, Int.toNat_add hx hy]
theorem shl_far (a b : Int) (h : I64 b) (hf : b < 0 ∨ 64 ≤ b) : shl a b = 0 := by
  unfold shl; rw [sh_far b h hf, wrap_top a 64 (Nat.le_refl _)]
theorem shl_zero (a : Int) (h : I64 a) : shl a 0 = a := by
  rw [shl_is a 0 (by omega) (by omega)]; simp [wrap_id h]
theorem shl_step (a k : Int) (h0 : 0 ≤ k) (h1 : k < 64) : oneV 6 (shl a k) = shl a (k + 1) := by
  rw [o6, shl_is a k h0 (by omega), shl_is a (k + 1) (by omega) (by omega), wrap_mul_r, Int.toNat_add h0 (by omega), Int.pow_add, Int.mul_comm 2, Int.mul_assoc]
  rfl

theorem u64_of_wrap (t : Int) (h0 : 0 ≤ t) (h1 : t < 18446744073709551616) : IntKind.u64.wrap (wrap64 t) = t := by
  rw [u64_wrap]; unfold wrap64; omega
theorem part_bd (A : Int) (n : Nat) (h0 : 0 ≤ A) (h1 : A < 18446744073709551616) : 0 ≤ A / 2 ^ n ∧ A / 2 ^ n < 18446744073709551616 := by
  have hp : (0 : Int) < 2 ^ n := Int.pow_pos (by decide)
  exact ⟨Int.ediv_nonneg h0 (by omega), Int.lt_of_le_of_lt (Int.ediv_le_self _ h0) h1⟩
theorem part_top (A : Int) (n : Nat) (hn : 64 ≤ n) (h0 : 0 ≤ A) (h1 : A < 18446744073709551616) : A / 2 ^ n = 0 := by
  refine Int.ediv_eq_zero_of_lt h0 (Int.lt_of_lt_of_le h1 ?_)
  have : (2 : Int) ^ 64 ≤ 2 ^ n := by
    obtain ⟨m, rfl⟩ : ∃ m, n = 64 + m := ⟨n - 64, by omega⟩
    have hp : (0 : Int) < 2 ^ m := Int.pow_pos (by decide)
    rw [Int.pow_add]
    calc (2 : Int) ^ 64 = 2 ^ 64 * 1 := by rw [Int.mul_one]
      _ ≤ 2 ^ 64 * 2 ^ m := Int.mul_le_mul_of_nonneg_left (by omega) (by decide)
  exact this
theorem shr_is (a b : Int) (h0 : 0 ≤ b) (h1 : b ≤ 9223372036854775807) : shr a b = wrap64 (IntKind.u64.wrap a / 2 ^ b.toNat) := by
  have hA : 0 ≤ IntKind.u64.wrap a ∧ IntKind.u64.wrap a < 18446744073709551616 := by rw [u64_wrap]; omega
  unfold shr
  rw [sh_near b h0 h1]
  by_cases h : b.toNat ≤ 64
  · rw [Nat.min_eq_left h]
  · rw [Nat.min_eq_right (by omega), part_top _ 64 (Nat.le_refl _) hA.1 hA.2, part_top _ b.toNat (by omega) hA.1 hA.2]
theorem shr_add (a x y : Int) (hx : 0 ≤ x) (hx' : x < 64) (hy : 0 ≤ y) (hy' : y < 64) : shr (shr a x) y = shr a (x + y) := by
  have hA : 0 ≤ IntKind.u64.wrap a ∧ IntKind.u64.wrap a < 18446744073709551616 := by rw [u64_wrap]; omega
  have hp := part_bd (IntKind.u64.wrap a) x.toNat hA.1 hA.2
  rw [shr_is _ y hy (by omega), shr_is a x hx (by omega), shr_is a (x + y) (by omega) (by omega), u64_of_wrap _ hp.1 hp.2, Int.ediv_ediv_of_nonneg (Int.le_of_lt (Int.pow_pos (by decide))), ← Int.pow_add, Int.toNat_add hx hy]
theorem shr_far (a b : Int) (h : I64 b) (hf : b < 0 ∨ 64 ≤ b) : shr a b = 0 := by
  have hA : 0 ≤ IntKind.u64.wrap a ∧ IntKind.u64.wrap a < 18446744073709551616 := by rw [u64_wrap]; omega
  unfold shr; rw [sh_far b h hf, part_top _ 64 (Nat.le_refl _) hA.1 hA.2]; decide +kernel
theorem shr_zero (a : Int) (h : I64 a) : shr a 0 = a := by
  rw [shr_is a 0 (by omega) (by omega), u64_wrap]
  unfold I64 at h
  simp
  unfold wrap64
  omega
end Go.Proofs.Ytfamnlomkbogoaa
