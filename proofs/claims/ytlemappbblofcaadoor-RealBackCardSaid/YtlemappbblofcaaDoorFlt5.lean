/- Binary64: towards 0; the ends of the cells; how far a whole number is rounded. No condition. -/
import Derived.Test.YtlemappbblofcaaDoorFlt4
namespace Go.Proofs.YtlemappbblofcaaDoor
open Ieee
set_option linter.unusedVariables false

theorem cut_down (s : Bool) (n d : Nat) : Toward.zero.cut s n d = n / 2 ^ d := by
  unfold Toward.cut
  simp only [Nat.shiftLeft_eq, Nat.one_mul, Bool.toNat_false, Nat.add_zero]
  by_cases h : d ≤ n.log2 + 2
  · rw [Nat.min_eq_left h]
  · rw [Nat.min_eq_right (by omega)]
    have a : n < 2 ^ (n.log2 + 1) := Nat.lt_log2_self
    have b : 2 ^ (n.log2 + 1) ≤ 2 ^ (n.log2 + 2) := Nat.pow_le_pow_right (by decide) (by omega)
    have c : 2 ^ (n.log2 + 1) ≤ 2 ^ d := Nat.pow_le_pow_right (by decide) (by omega)
    rw [Nat.div_eq_of_lt (by omega), Nat.div_eq_of_lt (by omega)]
/-- A number without its sign, towards 0. -/
def tr (M : Nat) (E : Int) : Nat := (M * 2 ^ E.toNat) / 2 ^ (-E).toNat
theorem toint_tr (s : Bool) (M : Nat) (E : Int) : (Datum.number s M E).toInt .zero = some (if s then -(tr M E : Int) else (tr M E : Int)) := by
  unfold Datum.toInt Datum.integral
  simp only [cut_down, Nat.shiftLeft_eq]
  unfold signed
  rw [Nat.shiftLeft_zero]
  rfl
theorem tr_lt {M : Nat} {E : Int} (h : M < 9007199254740992) (hE : E < 11) : tr M E < 9223372036854775808 := by
  unfold tr
  refine Nat.lt_of_le_of_lt (Nat.div_le_self _ _) ?_
  have a : 2 ^ E.toNat ≤ 2 ^ 10 := Nat.pow_le_pow_right (by decide) (by omega)
  have b : (2 : Nat) ^ 10 = 1024 := by decide
  have c := Nat.mul_le_mul (Nat.le_of_lt_succ (Nat.lt_succ_of_lt h)) a
  have d : M * 2 ^ E.toNat ≤ 9007199254740991 * 1024 := Nat.mul_le_mul (by omega) (by omega)
  omega
theorem read_up : double.read 4890909195324358656 = .number false 4503599627370496 11 := by decide +kernel
theorem read_low : double.read 14114281232179134464 = .number true 4503599627370496 11 := by decide +kernel
theorem signed_t (m u : Nat) : signed true m u = -((m * 2 ^ u : Nat) : Int) := by unfold signed; rw [Nat.shiftLeft_eq]; simp
theorem pow_split53 (E : Int) (h : E < 11) : ∃ j, (11 - E).toNat = j + 1 := ⟨(11 - E).toNat - 1, by omega⟩
theorem below_11 {M : Nat} {E : Int} (h : M < 9007199254740992) (hE : E < 11) : M * 2 ^ (E - min E 11).toNat < 4503599627370496 * 2 ^ (11 - min E 11).toNat := by
  rw [Int.min_eq_left (by omega), Int.sub_self, Int.toNat_zero, Nat.pow_zero, Nat.mul_one]
  obtain ⟨j, hj⟩ := pow_split53 E hE
  rw [hj, Nat.pow_succ]
  have := Nat.two_pow_pos j
  have := Nat.mul_le_mul_left (4503599627370496 * 2) (show 1 ≤ 2 ^ j from this)
  rw [Nat.mul_comm (2 ^ j) 2, ← Nat.mul_assoc]
  omega
theorem above_11 {M : Nat} {E : Int} (h : 4503599627370496 ≤ M) (hE : 11 ≤ E) : M * 2 ^ (E - min E 11).toNat ≥ 4503599627370496 * 2 ^ (11 - min E 11).toNat := by
  rw [Int.min_eq_right hE, Int.sub_self, Int.toNat_zero, Nat.pow_zero, Nat.mul_one]
  have := Nat.two_pow_pos (E - 11).toNat
  exact Nat.le_trans h (Nat.le_mul_of_pos_right _ this)
/-- Below 2^63, and not below -2^63. -/
theorem in_range (x : Nat) (s : Bool) (M : Nat) (E : Int) (hx : double.read x = .number s M E) (h : M < 9007199254740992) (hE : E < 11) :
    (double.order x 14114281232179134464 == some .gt || double.order x 14114281232179134464 == some .eq) = true ∧ (double.order x 4890909195324358656 == some .lt) = true := by
  have hb := below_11 h hE
  unfold Format.order
  rw [hx, read_up, read_low]
  simp only [Datum.order, signed_t, signed_f]
  have hX : signed s M (E - min E 11).toNat = if s then -((M * 2 ^ (E - min E 11).toNat : Nat) : Int) else ((M * 2 ^ (E - min E 11).toNat : Nat) : Int) := by
    cases s
    · rw [signed_f]; rfl
    · rw [signed_t]; rfl
  rw [hX]
  generalize M * 2 ^ (E - min E 11).toNat = A at *
  generalize 4503599627370496 * 2 ^ (11 - min E 11).toNat = B at *
  clear hX
  have c1 : compare (if s = true then -(A : Int) else (A : Int)) (-(B : Int)) = .gt := by
    rw [Int.compare_eq_gt]; cases s <;> simp <;> omega
  have c2 : compare (if s = true then -(A : Int) else (A : Int)) (B : Int) = .lt := by
    rw [Int.compare_eq_lt]; cases s <;> simp <;> omega
  rw [c1, c2]
  exact ⟨rfl, rfl⟩
/-- 2^63 and above. -/
theorem not_above (x : Nat) (M : Nat) (E : Int) (hx : double.read x = .number false M E) (h : 4503599627370496 ≤ M) (hE : 11 ≤ E) :
    (double.order x 4890909195324358656 == some .lt) = false := by
  have hb := above_11 h hE
  unfold Format.order
  rw [hx, read_up]
  simp only [Datum.order, signed_f]
  generalize M * 2 ^ (E - min E 11).toNat = A at *
  generalize 4503599627370496 * 2 ^ (11 - min E 11).toNat = B at *
  have c2 : compare (A : Int) (B : Int) ≠ .lt := by
    intro h; have := Int.compare_eq_lt.1 h; omega
  cases hc : compare (A : Int) (B : Int) with
  | lt => exact absurd hc c2
  | eq => rfl
  | gt => rfl
/-- -2^63 itself. -/
theorem is_low (x : Nat) (hx : double.read x = .number true 4503599627370496 11) :
    (double.order x 14114281232179134464 == some .gt || double.order x 14114281232179134464 == some .eq) = true ∧ (double.order x 4890909195324358656 == some .lt) = true := by
  unfold Format.order
  rw [hx, read_up, read_low]
  exact ⟨by decide +kernel, by decide +kernel⟩
/-- Below -2^63. -/
theorem not_low (x : Nat) (M : Nat) (E : Int) (hx : double.read x = .number true M E) (h : 4503599627370496 ≤ M) (hE : 11 ≤ E) (hne : ¬ (M = 4503599627370496 ∧ E = 11)) :
    (double.order x 14114281232179134464 == some .gt || double.order x 14114281232179134464 == some .eq) = false := by
  have hb : M * 2 ^ (E - min E 11).toNat > 4503599627370496 * 2 ^ (11 - min E 11).toNat := by
    rw [Int.min_eq_right hE, Int.sub_self, Int.toNat_zero, Nat.pow_zero, Nat.mul_one]
    by_cases e : E = 11
    · subst e; simp; omega
    · obtain ⟨j, hj⟩ : ∃ j, (E - 11).toNat = j + 1 := ⟨(E - 11).toNat - 1, by omega⟩
      rw [hj, Nat.pow_succ, Nat.mul_comm (2 ^ j) 2, ← Nat.mul_assoc]
      have := Nat.mul_le_mul_left (M * 2) (show 1 ≤ 2 ^ j from Nat.two_pow_pos j)
      omega
  unfold Format.order
  rw [hx, read_low]
  simp only [Datum.order, signed_t]
  generalize M * 2 ^ (E - min E 11).toNat = A at *
  generalize 4503599627370496 * 2 ^ (11 - min E 11).toNat = B at *
  have c2 : compare (-(A : Int)) (-(B : Int)) = .lt := Int.compare_eq_lt.2 (by omega)
  rw [c2]
  rfl
theorem inf_out (x : Nat) (s : Bool) (hx : double.read x = .infinity s) :
    (double.order x 14114281232179134464 == some .gt || double.order x 14114281232179134464 == some .eq) = false ∨ (double.order x 4890909195324358656 == some .lt) = false := by
  unfold Format.order
  rw [hx, read_up, read_low]
  cases s
  · exact Or.inr rfl
  · exact Or.inl rfl
theorem nan_out (x : Nat) (hx : (double.read x).isNaN = true) : (double.order x 4890909195324358656 == some .lt) = false := by
  unfold Format.order
  cases h : double.read x with
  | nan s t => rfl
  | number s m e => rw [h] at hx; cases hx
  | infinity s => rw [h] at hx; cases hx
theorem val_of_read (x : Nat) (s : Bool) (M : Nat) (E : Int) (hx : double.read x = .number s M E) (n : Int) (hn : (if s then -(tr M E : Int) else (tr M E : Int)) = n) (hb : -9223372036854775808 ≤ n ∧ n ≤ 9223372036854775807) : floatToIntVal .f64 x .i64 = some n := by
  have hd : FloatKind.f64.decode x = .number s M E := hx
  unfold floatToIntVal
  rw [hd, toint_tr, hn]
  have a : IntKind.i64.min = -9223372036854775808 := by decide +kernel
  have b : IntKind.i64.max = 9223372036854775807 := by decide +kernel
  simp only [a, b]
  rw [if_pos hb]
end Go.Proofs.YtlemappbblofcaaDoor
