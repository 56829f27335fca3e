/- Plain facts on the bits of integers of 64 bits: they are those of Lean's bit vectors. No Go text is spoken of. -/
import Derived.Test.YtjmbmhjhnoiclaaNum
namespace Go.Proofs.Ytjmbmhjhnoiclaa
open Go.RowKit
set_option linter.unusedVariables false

theorem and_bv (a b : Int) : bits .and .i64 a b = (BitVec.ofInt 64 a &&& BitVec.ofInt 64 b).toInt := by
  rw [← wrap_toInt]; exact IntWalk.i64_left _
theorem or_bv (a b : Int) : bits .or .i64 a b = (BitVec.ofInt 64 a ||| BitVec.ofInt 64 b).toInt := by
  rw [← wrap_toInt]; exact IntWalk.i64_left _
theorem xor_bv (a b : Int) : bits .xor .i64 a b = (BitVec.ofInt 64 a ^^^ BitVec.ofInt 64 b).toInt := by
  rw [← wrap_toInt]; exact IntWalk.i64_left _
theorem and_v (x y : BitVec 64) : bits .and .i64 x.toInt y.toInt = (x &&& y).toInt := by rw [and_bv, BitVec.ofInt_toInt, BitVec.ofInt_toInt]
theorem or_v (x y : BitVec 64) : bits .or .i64 x.toInt y.toInt = (x ||| y).toInt := by rw [or_bv, BitVec.ofInt_toInt, BitVec.ofInt_toInt]
theorem xor_v (x y : BitVec 64) : bits .xor .i64 x.toInt y.toInt = (x ^^^ y).toInt := by rw [xor_bv, BitVec.ofInt_toInt, BitVec.ofInt_toInt]
theorem add_v (x y : BitVec 64) : wrap64 (x.toInt + y.toInt) = (x + y).toInt := by rw [BitVec.toInt_add, wrap_bmod]
theorem sub_v (x y : BitVec 64) : wrap64 (x.toInt - y.toInt) = (x - y).toInt := by rw [BitVec.toInt_sub, wrap_bmod]

theorem bv_join (x y : BitVec 64) : (x &&& y) + (x ||| y) = x + y := by
  have h1 : x ||| y = (x &&& ~~~y) + y := by
    rw [BitVec.add_eq_or_of_and_eq_zero]
    · apply BitVec.eq_of_getLsbD_eq
      intro i hi
      simp only [BitVec.getLsbD_or, BitVec.getLsbD_and, BitVec.getLsbD_not, hi]
      cases x.getLsbD i <;> cases y.getLsbD i <;> rfl
    · apply BitVec.eq_of_getLsbD_eq
      intro i hi
      simp only [BitVec.getLsbD_and, BitVec.getLsbD_not, hi, BitVec.getLsbD_zero]
      cases x.getLsbD i <;> cases y.getLsbD i <;> rfl
  have h2 : x = (x &&& y) + (x &&& ~~~y) := by
    rw [BitVec.add_eq_or_of_and_eq_zero]
    · apply BitVec.eq_of_getLsbD_eq
      intro i hi
      simp only [BitVec.getLsbD_or, BitVec.getLsbD_and, BitVec.getLsbD_not, hi]
      cases x.getLsbD i <;> cases y.getLsbD i <;> rfl
    · apply BitVec.eq_of_getLsbD_eq
      intro i hi
      simp only [BitVec.getLsbD_and, BitVec.getLsbD_not, hi, BitVec.getLsbD_zero]
      cases x.getLsbD i <;> cases y.getLsbD i <;> rfl
  rw [h1, ← BitVec.add_assoc, ← h2]
theorem bv_xor (x y : BitVec 64) : x ^^^ y = (x ||| y) - (x &&& y) := by
  rw [BitVec.eq_sub_iff_add_eq, BitVec.add_eq_or_of_and_eq_zero]
  · apply BitVec.eq_of_getLsbD_eq
    intro i hi
    simp only [BitVec.getLsbD_or, BitVec.getLsbD_and, BitVec.getLsbD_xor]
    cases x.getLsbD i <;> cases y.getLsbD i <;> rfl
  · apply BitVec.eq_of_getLsbD_eq
    intro i hi
    simp only [BitVec.getLsbD_and, BitVec.getLsbD_xor, BitVec.getLsbD_zero]
    cases x.getLsbD i <;> cases y.getLsbD i <;> rfl

/-- The least cell. -/
theorem min_bv : BitVec.ofInt 64 (-9223372036854775808) = BitVec.intMin 64 := by decide
theorem xor_min (a : Int) (ha : I64 a) : bits .xor .i64 a (-9223372036854775808) = if a < 0 then a + 9223372036854775808 else a - 9223372036854775808 := by
  obtain ⟨x, rfl⟩ := exists_bv ha
  rw [xor_bv, BitVec.ofInt_toInt, min_bv]
  have e : x ^^^ BitVec.intMin 64 = x + BitVec.intMin 64 := by
    have h := bv_join x (BitVec.intMin 64)
    rw [bv_xor, BitVec.sub_eq_iff_eq_add, ← h]
    have hz : ∀ y : BitVec 64, (y &&& BitVec.intMin 64) + (y &&& BitVec.intMin 64) = 0#64 := by
      intro y
      have h2 : y &&& BitVec.intMin 64 = 0#64 ∨ y &&& BitVec.intMin 64 = BitVec.intMin 64 := by
        cases hm : y.getLsbD 63
        · left
          apply BitVec.eq_of_getLsbD_eq
          intro i hi
          rw [BitVec.getLsbD_and, BitVec.getLsbD_intMin, BitVec.getLsbD_zero]
          by_cases hi2 : i = 63
          · subst hi2; rw [hm]; rfl
          · simp [hi2]
        · right
          apply BitVec.eq_of_getLsbD_eq
          intro i hi
          rw [BitVec.getLsbD_and, BitVec.getLsbD_intMin]
          by_cases hi2 : i = 63
          · subst hi2; rw [hm]; rfl
          · simp [hi2]
      rcases h2 with h2 | h2 <;> rw [h2] <;> decide
    rw [BitVec.add_assoc, BitVec.add_comm (x ||| _), ← BitVec.add_assoc, hz, BitVec.zero_add]
  rw [e, ← add_v]
  have hmin : (BitVec.intMin 64).toInt = -9223372036854775808 := by decide
  rw [hmin]
  have := bv_i64 x
  unfold I64 at this
  unfold wrap64
  split <;> omega
end Go.Proofs.Ytjmbmhjhnoiclaa
