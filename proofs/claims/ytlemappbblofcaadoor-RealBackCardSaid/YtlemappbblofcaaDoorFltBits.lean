/- The fields of a binary64 word by operations on bits. No condition. -/
import Derived.Test.YtlemappbblofcaaDoorFlt
import Derived.Laws.BitsAllLaws
namespace Go.Proofs.YtlemappbblofcaaDoor
open Ieee
set_option linter.unusedVariables false

theorem and_low (x : Nat) : x &&& 9223372036854775807 = x % 9223372036854775808 := Nat.and_two_pow_sub_one_eq_mod x 63
theorem and_frac (x : Nat) : x &&& 4503599627370495 = x % 4503599627370496 := Nat.and_two_pow_sub_one_eq_mod x 52
theorem and_2047 (x : Nat) : x &&& 2047 = x % 2048 := Nat.and_two_pow_sub_one_eq_mod x 11
theorem bit63_word (s : Bool) (r : Nat) (h : r < 9223372036854775808) : (double.word s r).testBit 63 = s := by
  rw [Nat.testBit_eq_decide_div_mod_eq, word_d]
  cases s
  · simp; omega
  · simp; omega
theorem and_sign (s : Bool) (r : Nat) (h : r < 9223372036854775808) : double.word s r &&& 9223372036854775808 = double.word s 0 := by
  have e := Go.nat_bit 63 (double.word s r)
  have e2 : (2 : Nat) ^ 63 = 9223372036854775808 := by decide
  rw [e2] at e
  rw [e, word_d, word_d]
  cases s
  · simp; omega
  · simp; omega
theorem or_sign (r : Nat) (h : r < 9223372036854775808) : 9223372036854775808 ||| r = 9223372036854775808 + r := by
  have e := Nat.two_pow_add_eq_or_of_lt (i := 63) (b := r) (by omega) 1
  simpa using e.symm
theorem or_exp (e f : Nat) (h : f < 4503599627370496) : f ||| e * 4503599627370496 = e * 4503599627370496 + f := by
  have k := Nat.two_pow_add_eq_or_of_lt (i := 52) (b := f) (by omega) e
  rw [Nat.or_comm, Nat.mul_comm]
  have e2 : (2 : Nat) ^ 52 = 4503599627370496 := by decide
  rw [e2] at k
  exact k.symm
theorem clear_exp (s : Bool) (r : Nat) (h : r < 9223372036854775808) : double.word s r &&& 9227875636482146303 = double.word s (r % 4503599627370496) := by
  have e : (9227875636482146303 : Nat) = 9223372036854775808 ||| 4503599627370495 := by decide +kernel
  rw [e, Nat.and_or_distrib_left, and_sign s r h, and_frac]
  have k : double.word s r % 4503599627370496 = r % 4503599627370496 := by rw [word_d]; cases s <;> simp <;> omega
  rw [k]
  cases s
  · rw [word_d, word_d]; simp
  · have hb : r % 4503599627370496 < 4503599627370496 := Nat.mod_lt _ (by decide)
    rw [word_d, word_d]
    simp only [if_true, Nat.add_zero]
    exact or_sign _ (by omega)
theorem set_exp (s : Bool) (f e : Nat) (h : f < 4503599627370496) (he : e < 2048) : double.word s f ||| e * 4503599627370496 = double.word s (e * 4503599627370496 + f) := by
  cases s
  · rw [word_d, word_d]; simp only [Bool.false_eq_true, if_false, Nat.zero_add]; exact or_exp e f h
  · rw [word_d, word_d]
    simp only [if_true]
    rw [← or_sign f (by omega), Nat.or_assoc, or_exp e f h]
    exact or_sign _ (by omega)
theorem get_exp (s : Bool) (r : Nat) (h : r < 9223372036854775808) : (double.word s r / 4503599627370496) % 2048 = r / 4503599627370496 := by
  rw [word_d]; cases s <;> simp <;> omega
theorem xor_sign (s : Bool) (r : Nat) (h : r < 9223372036854775808) : double.word s r ^^^ 9223372036854775808 = double.word (!s) r := by
  have e2 : (2 : Nat) ^ 63 = 9223372036854775808 := by decide
  cases s
  · have : double.word false r ^^^ 9223372036854775808 = double.word false r ||| 9223372036854775808 := by
      apply Nat.eq_of_testBit_eq
      intro i
      rw [Nat.testBit_xor, Nat.testBit_or, ← e2, Nat.testBit_two_pow]
      by_cases k : 63 = i
      · subst k; rw [bit63_word false r h]; simp
      · simp [k]
    rw [this, Nat.or_comm, word_d, word_d]
    simp only [Bool.false_eq_true, if_false, Nat.zero_add, Bool.not_false, if_true]
    exact or_sign r h
  · have : double.word true r = double.word false r ^^^ 9223372036854775808 := by
      have k : double.word false r ^^^ 9223372036854775808 = double.word false r ||| 9223372036854775808 := by
        apply Nat.eq_of_testBit_eq
        intro i
        rw [Nat.testBit_xor, Nat.testBit_or, ← e2, Nat.testBit_two_pow]
        by_cases k : 63 = i
        · subst k; rw [bit63_word false r h]; simp
        · simp [k]
      rw [k, Nat.or_comm, word_d, word_d]
      simp only [Bool.false_eq_true, if_false, Nat.zero_add, if_true]
      exact (or_sign r h).symm
    rw [this, Nat.xor_assoc, Nat.xor_self, Nat.xor_zero]
    rfl
end Go.Proofs.YtlemappbblofcaaDoor
