/- Plain facts on the bits of integers of 64 bits: they are those of Lean's bit vectors. No Go. -/
import Derived.Test.YtfamnlomkbogoaaC1Math
namespace Go.Proofs.Ytfamnlomkbogoaa
open Go.RowKit
set_option linter.unusedVariables false

theorem wrap_bmod (n : Int) : wrap64 n = n.bmod (2 ^ 64) := by
  unfold wrap64
  rw [Int.bmod_def]
  simp only [Nat.reducePow]
  split <;> omega
theorem wrap_toInt (x : BitVec 64) : wrap64 (x.toNat : Int) = x.toInt := by rw [wrap_bmod, BitVec.toInt_eq_toNat_bmod]
theorem ofInt_wrap (n : Int) : BitVec.ofInt 64 (wrap64 n) = BitVec.ofInt 64 n := by
  apply BitVec.eq_of_toInt_eq
  rw [BitVec.toInt_ofInt, BitVec.toInt_ofInt, ← wrap_bmod, ← wrap_bmod, wrap_wrap]
theorem toInt_ofInt64 {a : Int} (h : I64 a) : (BitVec.ofInt 64 a).toInt = a := by rw [BitVec.toInt_ofInt, ← wrap_bmod, wrap_id h]
theorem exists_bv {a : Int} (h : I64 a) : ∃ x : BitVec 64, a = x.toInt := ⟨BitVec.ofInt 64 a, (toInt_ofInt64 h).symm⟩
theorem bv_i64 (x : BitVec 64) : I64 x.toInt := by rw [← wrap_toInt]; exact i64_wrap _

theorem and_bv (a b : Int) : bits .and .i64 a b = (BitVec.ofInt 64 a &&& BitVec.ofInt 64 b).toInt := by
  rw [← wrap_toInt]; exact IntWalk.i64_left _
theorem or_bv (a b : Int) : bits .or .i64 a b = (BitVec.ofInt 64 a ||| BitVec.ofInt 64 b).toInt := by
  rw [← wrap_toInt]; exact IntWalk.i64_left _
theorem xor_bv (a b : Int) : bits .xor .i64 a b = (BitVec.ofInt 64 a ^^^ BitVec.ofInt 64 b).toInt := by
  rw [← wrap_toInt]; exact IntWalk.i64_left _
theorem and_v (x y : BitVec 64) : bits .and .i64 x.toInt y.toInt = (x &&& y).toInt := by rw [and_bv, BitVec.ofInt_toInt, BitVec.ofInt_toInt]
theorem or_v (x y : BitVec 64) : bits .or .i64 x.toInt y.toInt = (x ||| y).toInt := by rw [or_bv, BitVec.ofInt_toInt, BitVec.ofInt_toInt]
theorem xor_v (x y : BitVec 64) : bits .xor .i64 x.toInt y.toInt = (x ^^^ y).toInt := by rw [xor_bv, BitVec.ofInt_toInt, BitVec.ofInt_toInt]
theorem not_v (x : BitVec 64) : wrap64 (-1 - x.toInt) = (~~~x).toInt := by
  rw [← xor_ones, xor_bv, BitVec.ofInt_toInt]
  rw [show BitVec.ofInt 64 (-1) = BitVec.allOnes 64 by decide, BitVec.allOnes_xor]
theorem add_v (x y : BitVec 64) : wrap64 (x.toInt + y.toInt) = (x + y).toInt := by rw [BitVec.toInt_add, wrap_bmod]
theorem sub_v (x y : BitVec 64) : wrap64 (x.toInt - y.toInt) = (x - y).toInt := by rw [BitVec.toInt_sub, wrap_bmod]

theorem bv_join (x y : BitVec 64) : (x &&& y) + (x ||| y) = x + y := by
  have h1 : x ||| y = (x &&& ~~~y) + y := by
    rw [BitVec.add_eq_or_of_and_eq_zero]
    · apply BitVec.eq_of_getLsbD_eq
      intro i hi
      simp only [BitVec.getLsbD_or, BitVec.getLsbD_and, BitVec.getLsbD_not, hi]
      cases x.getLsbD i <;> cases y.getLsbD i <;> rfl
    · apply BitVec.eq_of_getLsbD_eq
      intro i hi
      simp only [BitVec.getLsbD_and, BitVec.getLsbD_not, hi, BitVec.getLsbD_zero]
      cases x.getLsbD i <;> cases y.getLsbD i <;> rfl
  have h2 : x = (x &&& y) + (x &&& ~~~y) := by
    rw [BitVec.add_eq_or_of_and_eq_zero]
    · apply BitVec.eq_of_getLsbD_eq
      intro i hi
      simp only [BitVec.getLsbD_or, BitVec.getLsbD_and, BitVec.getLsbD_not, hi]
      cases x.getLsbD i <;> cases y.getLsbD i <;> rfl
    · apply BitVec.eq_of_getLsbD_eq
      intro i hi
      simp only [BitVec.getLsbD_and, BitVec.getLsbD_not, hi, BitVec.getLsbD_zero]
      cases x.getLsbD i <;> cases y.getLsbD i <;> rfl
  rw [h1, ← BitVec.add_assoc, ← h2]
theorem bv_xor (x y : BitVec 64) : x ^^^ y = (x ||| y) - (x &&& y) := by
  rw [BitVec.eq_sub_iff_add_eq, BitVec.add_eq_or_of_and_eq_zero]
  · apply BitVec.eq_of_getLsbD_eq
    intro i hi
    simp only [BitVec.getLsbD_or, BitVec.getLsbD_and, BitVec.getLsbD_xor]
    cases x.getLsbD i <;> cases y.getLsbD i <;> rfl
  · apply BitVec.eq_of_getLsbD_eq
    intro i hi
    simp only [BitVec.getLsbD_and, BitVec.getLsbD_xor, BitVec.getLsbD_zero]
    cases x.getLsbD i <;> cases y.getLsbD i <;> rfl

theorem logic_a (a b : Int) (ha : I64 a) (hb : I64 b) : (oneV 3 (twoV 17 a b) == twoV 16 (oneV 3 a) (oneV 3 b)) = true := by
  obtain ⟨x, rfl⟩ := exists_bv ha
  obtain ⟨y, rfl⟩ := exists_bv hb
  rw [v17, v16, o3, o3, o3, or_v, not_v, not_v, not_v, and_v, beq_iff_eq]
  congr 1
  apply BitVec.eq_of_getLsbD_eq
  intro i hi
  simp only [BitVec.getLsbD_or, BitVec.getLsbD_and, BitVec.getLsbD_not, hi]
  cases x.getLsbD i <;> cases y.getLsbD i <;> rfl
theorem logic_b (a : Int) (ha : I64 a) : (oneV 3 (oneV 3 a) == a) = true := by
  rw [o3, o3, wrap_sub_r, beq_iff_eq, show -1 - (-1 - a) = a from by omega, wrap_id ha]
theorem logic_c (a b : Int) (ha : I64 a) (hb : I64 b) : (twoV 18 a b == twoV 12 (twoV 17 a b) (twoV 16 a b)) = true := by
  obtain ⟨x, rfl⟩ := exists_bv ha
  obtain ⟨y, rfl⟩ := exists_bv hb
  rw [v18, v12, v17, v16, xor_v, or_v, and_v, sub_v, bv_xor, beq_iff_eq]
theorem logic_d (a b c : Int) (ha : I64 a) (hb : I64 b) (hc : I64 c) : (twoV 16 (twoV 17 a b) c == twoV 17 (twoV 16 a c) (twoV 16 b c)) = true := by
  obtain ⟨x, rfl⟩ := exists_bv ha
  obtain ⟨y, rfl⟩ := exists_bv hb
  obtain ⟨z, rfl⟩ := exists_bv hc
  rw [v17, v17, v16, v16, v16, or_v, and_v, and_v, and_v, or_v, beq_iff_eq]
  congr 1
  apply BitVec.eq_of_getLsbD_eq
  intro i hi
  simp only [BitVec.getLsbD_or, BitVec.getLsbD_and]
  cases x.getLsbD i <;> cases y.getLsbD i <;> cases z.getLsbD i <;> rfl
theorem logic_e (a b : Int) (ha : I64 a) (hb : I64 b) : (twoV 18 (twoV 18 a b) b == a) = true := by
  obtain ⟨x, rfl⟩ := exists_bv ha
  obtain ⟨y, rfl⟩ := exists_bv hb
  rw [v18, v18, xor_v, xor_v, BitVec.xor_assoc, BitVec.xor_self, BitVec.xor_zero, beq_iff_eq]
theorem logic_f (a b : Int) (ha : I64 a) (hb : I64 b) : (twoV 11 (twoV 16 a b) (twoV 17 a b) == twoV 11 a b) = true := by
  obtain ⟨x, rfl⟩ := exists_bv ha
  obtain ⟨y, rfl⟩ := exists_bv hb
  rw [v11, v11, v16, v17, and_v, or_v, add_v, add_v, bv_join, beq_iff_eq]

/-- The least cell. -/
theorem min_bv : BitVec.ofInt 64 (-9223372036854775808) = BitVec.intMin 64 := by decide
theorem xor_min (a : Int) (ha : I64 a) : bits .xor .i64 a (-9223372036854775808) = if a < 0 then a + 9223372036854775808 else a - 9223372036854775808 := by
  obtain ⟨x, rfl⟩ := exists_bv ha
  rw [xor_bv, BitVec.ofInt_toInt, min_bv]
  have e : x ^^^ BitVec.intMin 64 = x + BitVec.intMin 64 := by
    have h := bv_join x (BitVec.intMin 64)
    rw [bv_xor, BitVec.sub_eq_iff_eq_add, ← h]
    have hz : ∀ y : BitVec 64, (y &&& BitVec.intMin 64) + (y &&& BitVec.intMin 64) = 0#64 := by
      intro y
      have h2 : y &&& BitVec.intMin 64 = 0#64 ∨ y &&& BitVec.intMin 64 = BitVec.intMin 64 := by
        cases hm : y.getLsbD 63
        · left
          apply BitVec.eq_of_getLsbD_eq
          intro i hi
          rw [BitVec.getLsbD_and, BitVec.getLsbD_intMin, BitVec.getLsbD_zero]
          by_cases hi2 : i = 63
          · subst hi2; rw [hm]; rfl
          · simp [hi2]
        · right
          apply BitVec.eq_of_getLsbD_eq
          intro i hi
          rw [BitVec.getLsbD_and, BitVec.getLsbD_intMin]
          by_cases hi2 : i = 63
          · subst hi2; rw [hm]; rfl
          · simp [hi2]
      rcases h2 with h2 | h2 <;> rw [h2] <;> decide
    rw [BitVec.add_assoc, BitVec.add_comm (x ||| _), ← BitVec.add_assoc, hz, BitVec.zero_add]
  rw [e, ← add_v]
  have hmin : (BitVec.intMin 64).toInt = -9223372036854775808 := by decide
  rw [hmin]
  have := bv_i64 x
  unfold I64 at this
  unfold wrap64
  split <;> omega
theorem u64_wrap (a : Int) : IntKind.u64.wrap a = a % 18446744073709551616 := by simp [IntKind.wrap, IntKind.bits, IntKind.signed]
theorem truth_congr {p q : Bool} (h : p = q) : truth p = truth q := by rw [h]
end Go.Proofs.Ytfamnlomkbogoaa
