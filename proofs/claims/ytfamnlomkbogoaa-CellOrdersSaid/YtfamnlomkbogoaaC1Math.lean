/- Plain arithmetic on integers modulo 2 to the 64. No Go. -/
import Derived.Test.YtfamnlomkbogoaaC1Two
namespace Go.Proofs.Ytfamnlomkbogoaa
open Go.RowKit
set_option linter.unusedVariables false

def I64 (a : Int) : Prop := -9223372036854775808 ≤ a ∧ a ≤ 9223372036854775807
theorem i64_of_wf {a : Int} (h : (Lit.int .i64 a).wf = true) : I64 a := by
  simpa [I64, Lit.wf, IntKind.min, IntKind.max, IntKind.signed, IntKind.bits] using h
theorem i64_wrap (a : Int) : I64 (wrap64 a) := by unfold I64 wrap64; omega
theorem wrap_id {a : Int} (h : I64 a) : wrap64 a = a := IntWalk.wrap64_in a h
theorem wrap_wrap (a : Int) : wrap64 (wrap64 a) = wrap64 a := wrap_id (i64_wrap a)
theorem wrap_is (a : Int) : ∃ k, wrap64 a = a + 18446744073709551616 * k := ⟨-((a + 9223372036854775808) / 18446744073709551616), by unfold wrap64; omega⟩
theorem wrap_off (a k : Int) : wrap64 (a + 18446744073709551616 * k) = wrap64 a := by unfold wrap64; omega
theorem wrap_add_l (a b : Int) : wrap64 (wrap64 a + b) = wrap64 (a + b) := by
  obtain ⟨k, hk⟩ := wrap_is a
  rw [hk, show a + 18446744073709551616 * k + b = (a + b) + 18446744073709551616 * k from by omega, wrap_off]
theorem wrap_add_r (a b : Int) : wrap64 (a + wrap64 b) = wrap64 (a + b) := by rw [Int.add_comm, wrap_add_l, Int.add_comm]
theorem wrap_sub_l (a b : Int) : wrap64 (wrap64 a - b) = wrap64 (a - b) := by
  obtain ⟨k, hk⟩ := wrap_is a
  rw [hk, show a + 18446744073709551616 * k - b = (a - b) + 18446744073709551616 * k from by omega, wrap_off]
theorem wrap_sub_r (a b : Int) : wrap64 (a - wrap64 b) = wrap64 (a - b) := by
  obtain ⟨k, hk⟩ := wrap_is b
  rw [hk, show a - (b + 18446744073709551616 * k) = (a - b) + 18446744073709551616 * (-k) from by omega, wrap_off]
theorem wrap_neg (b : Int) : wrap64 (-wrap64 b) = wrap64 (-b) := by
  have := wrap_sub_r 0 b
  simpa using this
theorem wrap_mul_l (a b : Int) : wrap64 (wrap64 a * b) = wrap64 (a * b) := by
  obtain ⟨k, hk⟩ := wrap_is a
  rw [hk, show (a + 18446744073709551616 * k) * b = a * b + 18446744073709551616 * (k * b) from by rw [Int.add_mul, Int.mul_assoc], wrap_off]
theorem wrap_mul_r (a b : Int) : wrap64 (a * wrap64 b) = wrap64 (a * b) := by rw [Int.mul_comm, wrap_mul_l, Int.mul_comm]

theorem v11 (a b : Int) : twoV 11 a b = wrap64 (a + b) := by simp [twoV]
theorem v12 (a b : Int) : twoV 12 a b = wrap64 (a - b) := by simp [twoV]
theorem v13 (a b : Int) : twoV 13 a b = wrap64 (a * b) := by simp [twoV]
theorem v14 (a b : Int) (h : b ≠ 0) : twoV 14 a b = quo a b := by simp [twoV, h]
theorem v15 (a b : Int) (h : b ≠ 0) : twoV 15 a b = rem a b := by simp [twoV, h]
theorem v14z (a : Int) : twoV 14 a 0 = 0 := by simp [twoV]
theorem v15z (a : Int) : twoV 15 a 0 = 0 := by simp [twoV]
theorem v16 (a b : Int) : twoV 16 a b = bits .and .i64 a b := by simp [twoV]
theorem v17 (a b : Int) : twoV 17 a b = bits .or .i64 a b := by simp [twoV]
theorem v18 (a b : Int) : twoV 18 a b = bits .xor .i64 a b := by simp [twoV]
theorem v19 (a b : Int) : twoV 19 a b = shl a b := by simp [twoV]
theorem v20 (a b : Int) : twoV 20 a b = shr a b := by simp [twoV]
theorem v21 (a b : Int) : twoV 21 a b = truth (a == b) := by simp [twoV]
theorem v22 (a b : Int) : twoV 22 a b = truth (a != b) := by simp [twoV]
theorem v23 (a b : Int) : twoV 23 a b = truth (decide (a < b)) := by simp [twoV]
theorem v24 (a b : Int) : twoV 24 a b = truth (decide (b < a)) := by simp [twoV]
theorem v25 (a b : Int) : twoV 25 a b = truth (decide (IntKind.u64.wrap a < IntKind.u64.wrap b)) := by simp [twoV]
theorem v26 (a b : Int) : twoV 26 a b = lower a b := by simp [twoV]
theorem v27 (a b : Int) : twoV 27 a b = upper a b := by simp [twoV]
theorem o1 (a : Int) : oneV 1 a = wrap64 (-a) := by simp [oneV]
theorem o2 (a : Int) : oneV 2 a = upper a (wrap64 (-a)) := by simp [oneV]
theorem o3 (a : Int) : oneV 3 a = wrap64 (-1 - a) := by simp [oneV]
theorem o4 (a : Int) : oneV 4 a = wrap64 (a + 1) := by simp [oneV]
theorem o5 (a : Int) : oneV 5 a = wrap64 (a - 1) := by simp [oneV]
theorem o6 (a : Int) : oneV 6 a = wrap64 (2 * a) := by simp [oneV]
theorem o7 (a : Int) : oneV 7 a = a / 2 := by simp [oneV]
theorem o8 (a : Int) : oneV 8 a = truth (a == 0) := by simp [oneV]
theorem o9 (a : Int) : oneV 9 a = truth (decide (a < 0)) := by simp [oneV]
theorem o10 (a : Int) : oneV 10 a = truth (a != 0) := by simp [oneV]

/-! ### division -/
theorem tdiv_bd (a b : Int) (ha : I64 a) (hb : b ≠ 0) (h1 : b ≠ -1) : I64 (a.tdiv b) := by
  unfold I64 at *
  have h2 := Int.tdiv_mul_add_tmod a b
  by_cases hp : 0 < b
  · have h3 : (a.tdiv b).natAbs ≤ a.natAbs := by rw [Int.natAbs_tdiv]; exact Nat.div_le_self _ _
    by_cases h4 : b = 1
    · subst h4; simp; omega
    · have h5 : (a.tdiv b).natAbs ≤ a.natAbs / 2 := by
        rw [Int.natAbs_tdiv]
        exact Nat.div_le_div_left (by omega) (by omega)
      omega
  · have h5 : (a.tdiv b).natAbs ≤ a.natAbs / 2 := by
      rw [Int.natAbs_tdiv]
      exact Nat.div_le_div_left (by omega) (by omega)
    omega

theorem tmod_bd (a b : Int) (hb : b ≠ 0) : (a.tmod b).natAbs < b.natAbs := by
  rw [Int.natAbs_tmod]; exact Nat.mod_lt _ (by omega)
theorem tmod_sign (a b : Int) : (0 ≤ a → 0 ≤ a.tmod b) ∧ (a ≤ 0 → a.tmod b ≤ 0) := by
  refine ⟨fun h => Int.tmod_nonneg _ h, fun h => ?_⟩
  have h1 := Int.tmod_nonneg b (a := -a) (by omega)
  rw [Int.neg_tmod] at h1
  omega
theorem tmod_le (a b : Int) : (a.tmod b).natAbs ≤ a.natAbs := by rw [Int.natAbs_tmod]; exact Nat.mod_le _ _

/-- The quotient and the remainder of the code, for cells, over what the machine's division gives. -/
theorem quo_is (a b : Int) (ha : I64 a) (hb : b ≠ 0) : quo a b = wrap64 (if a.tmod b ≠ 0 ∧ ¬ (a < 0 ↔ b < 0) then a.tdiv b - 1 else a.tdiv b) := by
  have h2 := Int.tdiv_mul_add_tmod a b
  have hm := tmod_le a b
  have hs := tmod_sign a b
  have e1 : wrap64 (wrap64 (a.tdiv b) * b) = a - a.tmod b := by
    rw [wrap_mul_l, show a.tdiv b * b = a - a.tmod b from by omega]
    refine wrap_id ?_
    unfold I64 at *
    by_cases h0 : 0 ≤ a
    · have := hs.1 h0; omega
    · have := hs.2 (by omega); omega
  unfold quo
  rw [e1, wrap_sub_l]
  have e2 : (a - a.tmod b != a && (decide (a < 0) != decide (b < 0))) = decide (a.tmod b ≠ 0 ∧ ¬ (a < 0 ↔ b < 0)) := by
    rw [Bool.eq_iff_iff]
    by_cases h3 : a < 0 <;> by_cases h4 : b < 0 <;> simp [h3, h4] <;> omega
  rw [e2]
  by_cases hc : a.tmod b ≠ 0 ∧ ¬ (a < 0 ↔ b < 0) <;> simp [hc]

theorem rem_is (a b : Int) (hbb : I64 b) (hb : b ≠ 0) : rem a b = if a.tmod b ≠ 0 ∧ ¬ (a < 0 ↔ b < 0) then a.tmod b + b else a.tmod b := by
  have hm := tmod_bd a b hb
  have hs := tmod_sign a b
  have e1 : wrap64 (a.tmod b + b) = a.tmod b + b ∨ (a < 0 ↔ b < 0) := by
    by_cases h : a < 0 ↔ b < 0
    · exact .inr h
    · refine .inl (wrap_id ?_)
      unfold I64 at *
      by_cases h0 : 0 ≤ a
      · have := hs.1 h0; omega
      · have := hs.2 (by omega); omega
  unfold rem
  have e2 : (a.tmod b != 0 && (decide (a.tmod b < 0) != decide (b < 0))) = decide (a.tmod b ≠ 0 ∧ ¬ (a < 0 ↔ b < 0)) := by
    rw [Bool.eq_iff_iff]
    by_cases h5 : a.tmod b = 0
    · simp [h5]
    · have h6 : a.tmod b < 0 ↔ a < 0 := by
        by_cases h0 : 0 ≤ a
        · have := hs.1 h0; omega
        · have := hs.2 (by omega); omega
      by_cases h3 : a < 0 <;> by_cases h4 : b < 0 <;> simp [h3, h4, h5, h6]
  rw [e2]
  by_cases hc : a.tmod b ≠ 0 ∧ ¬ (a < 0 ↔ b < 0)
  · rcases e1 with e1 | e1
    · simp [hc, e1]
    · exact absurd e1 hc.2
  · simp [hc]

theorem divides (a b : Int) (ha : I64 a) (hbb : I64 b) (hb : b ≠ 0) :
    wrap64 (wrap64 (quo a b * b) + rem a b) = a ∧ ((0 ≤ rem a b ∧ rem a b < b) ∨ (rem a b ≤ 0 ∧ b < rem a b)) := by
  have h2 := Int.tdiv_mul_add_tmod a b
  have hm := tmod_bd a b hb
  have hs := tmod_sign a b
  rw [quo_is a b ha hb, rem_is a b hbb hb, wrap_mul_l, wrap_add_l]
  by_cases hc : a.tmod b ≠ 0 ∧ ¬ (a < 0 ↔ b < 0)
  · rw [if_pos hc, if_pos hc]
    refine ⟨?_, ?_⟩
    · rw [show (a.tdiv b - 1) * b + (a.tmod b + b) = a from by rw [Int.sub_mul]; omega]
      exact wrap_id ha
    · by_cases h0 : 0 ≤ a
      · have := hs.1 h0; omega
      · have := hs.2 (by omega); omega
  · rw [if_neg hc, if_neg hc]
    refine ⟨?_, ?_⟩
    · rw [h2]; exact wrap_id ha
    · by_cases h0 : 0 ≤ a
      · have := hs.1 h0; omega
      · have := hs.2 (by omega); omega
end Go.Proofs.Ytfamnlomkbogoaa
