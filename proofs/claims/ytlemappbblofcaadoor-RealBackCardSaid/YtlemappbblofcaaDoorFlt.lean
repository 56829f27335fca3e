/- Binary64 as plain mathematics: what a word stands for, and that a number which the format has is written as its own word. No condition. -/
import Ieee.Arith
import Derived.Laws.FloatBits
namespace Go.Proofs.YtlemappbblofcaaDoor
open Ieee
set_option linter.unusedVariables false

theorem d_binade : double.binade = 4503599627370496 := by decide +kernel
theorem d_inf : double.infRung = 9218868437227405312 := by decide +kernel
theorem d_sw : double.signWeight = 9223372036854775808 := by decide +kernel
theorem d_least : double.leastPlace = -1074 := by decide +kernel
theorem d_frac : double.fractionBits = 52 := rfl

/-- The whole part and the place of a rung. -/
def rM (r : Nat) : Nat := if r < 4503599627370496 then r else 4503599627370496 + r % 4503599627370496
def rE (r : Nat) : Int := if r < 4503599627370496 then -1074 else (r / 4503599627370496 : Nat) - 1075
/-- A number in the format's own form. -/
structure Can (M : Nat) (E : Int) : Prop where
  lt : M < 9007199254740992
  lo : -1074 ≤ E
  hi : E ≤ 971
  top : 4503599627370496 ≤ M ∨ E = -1074
def rung (M : Nat) (E : Int) : Nat := (E + 1074).toNat * 4503599627370496 + M

theorem rung_can {r : Nat} (h : r < 9218868437227405312) : Can (rM r) (rE r) := by
  unfold rM rE
  by_cases h1 : r < 4503599627370496
  · rw [if_pos h1, if_pos h1]; exact ⟨by omega, by omega, by omega, Or.inr rfl⟩
  · rw [if_neg h1, if_neg h1]; exact ⟨by omega, by omega, by omega, Or.inl (by omega)⟩
theorem rung_back {r : Nat} (h : r < 9218868437227405312) : rung (rM r) (rE r) = r := by
  unfold rung rM rE
  by_cases h1 : r < 4503599627370496
  · rw [if_pos h1, if_pos h1]; omega
  · rw [if_neg h1, if_neg h1]; omega
theorem rung_lt {M : Nat} {E : Int} (h : Can M E) : rung M E < 9218868437227405312 := by
  obtain ⟨h1, h2, h3, h4⟩ := h
  unfold rung
  omega
theorem rM_rung {M : Nat} {E : Int} (h : Can M E) : rM (rung M E) = M := by
  obtain ⟨h1, h2, h3, h4⟩ := h
  unfold rM rung
  by_cases k : (E + 1074).toNat * 4503599627370496 + M < 4503599627370496
  · rw [if_pos k]; omega
  · rw [if_neg k]; omega
theorem rE_rung {M : Nat} {E : Int} (h : Can M E) : rE (rung M E) = E := by
  obtain ⟨h1, h2, h3, h4⟩ := h
  unfold rE rung
  by_cases k : (E + 1074).toNat * 4503599627370496 + M < 4503599627370496
  · rw [if_pos k]; omega
  · rw [if_neg k]; omega

theorem word_d (s : Bool) (r : Nat) : double.word s r = (if s then 9223372036854775808 else 0) + r := by
  unfold Format.word
  rw [d_sw]
  cases s <;> simp
theorem word_split (n : Nat) (h : n < 18446744073709551616) : n = double.word (decide (9223372036854775808 ≤ n)) (n % 9223372036854775808) := by
  rw [word_d]
  by_cases k : 9223372036854775808 ≤ n
  · rw [decide_eq_true k]; simp only [if_true]; omega
  · rw [decide_eq_false k]; simp; omega
theorem read_word (s : Bool) (r : Nat) (h : r < 9223372036854775808) : double.read (double.word s r) =
    if r < 9218868437227405312 then .number s (rM r) (rE r) else if r = 9218868437227405312 then .infinity s else .nan s (r - 9218868437227405312) := by
  unfold Format.read
  rw [word_d, d_sw, d_binade, d_inf, d_least]
  have e1 : ((if s = true then 9223372036854775808 else 0) + r) / 9223372036854775808 % 2 = if s then 1 else 0 := by cases s <;> simp <;> omega
  have e2 : ((if s = true then 9223372036854775808 else 0) + r) % 9223372036854775808 = r := by cases s <;> simp <;> omega
  have e3 : ((if s = true then 1 else 0 : Nat) == 1) = s := by cases s <;> rfl
  simp only [e1, e2, e3]
  by_cases h1 : r < 4503599627370496
  · rw [if_pos h1, if_pos (by omega)]
    unfold rM rE
    rw [if_pos h1, if_pos h1]
  · rw [if_neg h1]
    by_cases h2 : r < 9218868437227405312
    · rw [if_pos h2, if_pos h2]
      unfold rM rE
      rw [if_neg h1, if_neg h1]
      congr 1
      omega
    · rw [if_neg h2, if_neg h2]
theorem read_fin (s : Bool) {r : Nat} (h : r < 9218868437227405312) : double.read (double.word s r) = .number s (rM r) (rE r) := by
  rw [read_word s r (by omega), if_pos h]
theorem read_can (s : Bool) {M : Nat} {E : Int} (h : Can M E) : double.read (double.word s (rung M E)) = .number s M E := by
  rw [read_fin s (rung_lt h), rM_rung h, rE_rung h]
theorem read_inf (s : Bool) : double.read (double.word s 9218868437227405312) = .infinity s := by
  rw [read_word s _ (by omega)]; rfl

theorem cut_zero (way : Toward) (s : Bool) (n : Nat) : way.cut s n 0 = n := by
  unfold Toward.cut
  simp only [Nat.zero_min, Nat.shiftLeft_zero, Nat.div_one, Nat.mod_one]
  cases way <;> simp
theorem log2_mul_pow (M k : Nat) (h : M ≠ 0) : (M * 2 ^ k).log2 = M.log2 + k := by
  induction k with
  | zero => simp
  | succ k ih =>
    rw [Nat.pow_succ, ← Nat.mul_assoc, Nat.mul_comm _ 2, Nat.log2_two_mul (Nat.mul_ne_zero h (Nat.ne_of_gt (Nat.two_pow_pos k))), ih]
    rfl
theorem cut_pow (way : Toward) (s : Bool) (M k : Nat) (h : M ≠ 0) : way.cut s (M * 2 ^ k) k = M := by
  unfold Toward.cut
  have hk : min k ((M * 2 ^ k).log2 + 2) = k := by rw [log2_mul_pow M k h]; omega
  have h0 := Nat.two_pow_pos k
  simp only [hk, Nat.shiftLeft_eq, Nat.one_mul]
  rw [Nat.mul_div_cancel _ h0, Nat.mul_mod_left]
  have e : (2 ^ k == 2 * 0) = false := by simp
  cases way <;> simp
theorem log2_lt53 {M : Nat} (h : M < 9007199254740992) (h0 : M ≠ 0) : M.log2 < 53 := (Nat.log2_lt h0).2 (by omega)
theorem log2_ge52 {M : Nat} (h : 4503599627370496 ≤ M) : 52 ≤ M.log2 := (Nat.le_log2 (by omega)).2 (by omega)
theorem log2_lt52 {M : Nat} (h : ¬ 4503599627370496 ≤ M) (h0 : M ≠ 0) : M.log2 < 52 := (Nat.log2_lt h0).2 (by omega)

/-- m * 2^p and M * 2^E are one number. -/
def Eqv (m : Nat) (p : Int) (M : Nat) (E : Int) : Prop := (∃ k : Nat, m = M * 2 ^ k ∧ p = E - k) ∨ (∃ k : Nat, M = m * 2 ^ k ∧ E = p - k)
theorem last_can {M : Nat} {E : Int} (h : Can M E) (h0 : M ≠ 0) : max (E + M.log2 - 52) (-1074) = E := by
  obtain ⟨h1, h2, h3, h4⟩ := h
  have := log2_lt53 h1 h0
  by_cases k : 4503599627370496 ≤ M
  · have := log2_ge52 k; omega
  · have := log2_lt52 k h0; omega
/-- A number that the format has is written as its own word. -/
theorem nearest_can (s : Bool) {m : Nat} {p : Int} {M : Nat} {E : Int} (h : Can M E) (h0 : M ≠ 0) (e : Eqv m p M E) : double.nearest s m p = double.word s (rung M E) := by
  have hl := last_can h h0
  have hr := rung_lt h
  unfold Format.nearest
  rw [d_frac, d_least, d_binade, d_inf]
  rcases e with ⟨k, rfl, rfl⟩ | ⟨k, rfl, rfl⟩
  · have hm : M * 2 ^ k ≠ 0 := Nat.mul_ne_zero h0 (Nat.ne_of_gt (Nat.two_pow_pos k))
    rw [if_neg hm, log2_mul_pow M k h0]
    have hl' : max (E - (k : Int) + ((M.log2 + k : Nat) : Int) - ((52 : Nat) : Int)) (-1074) = E := by rw [← hl]; congr 1; omega
    simp only [hl']
    have e1 : (E - (k : Int) - E).toNat = 0 := by omega
    have e2 : (E - (E - (k : Int))).toNat = k := by omega
    rw [e1, e2, Nat.shiftLeft_zero, cut_pow _ _ _ _ h0]
    have e3 : min ((E - -1074).toNat * 4503599627370496 + M) 9218868437227405312 = rung M E := by
      have : E - -1074 = E + 1074 := Int.sub_neg _ _
      rw [this]
      exact Nat.min_eq_left (Nat.le_of_lt hr)
    rw [e3]
  · have hm : m ≠ 0 := by rintro rfl; simp at h0
    rw [if_neg hm]
    have hL := log2_mul_pow m k hm
    rw [hL] at hl
    have hl' : max (p + ((m.log2 : Nat) : Int) - ((52 : Nat) : Int)) (-1074) = p - (k : Int) := by
      rw [← hl]; congr 1; omega
    simp only [hl']
    have e1 : (p - (p - (k : Int))).toNat = k := by omega
    have e2 : (p - (k : Int) - p).toNat = 0 := by omega
    rw [e1, e2, Nat.shiftLeft_eq, cut_zero]
    have e3 : min ((p - (k : Int) - -1074).toNat * 4503599627370496 + m * 2 ^ k) 9218868437227405312 = rung (m * 2 ^ k) (p - k) := by
      have : p - (k : Int) - -1074 = p - k + 1074 := Int.sub_neg _ _
      rw [this]
      exact Nat.min_eq_left (Nat.le_of_lt hr)
    rw [e3]
theorem nearest_zero (s : Bool) (p : Int) : double.nearest s 0 p = double.word s 0 := by
  unfold Format.nearest; rw [if_pos rfl]
theorem eqv_refl (M : Nat) (E : Int) : Eqv M E M E := Or.inl ⟨0, by simp, by simp⟩
/-- What is read of a finite word is written as that word. -/
theorem nearest_back (s : Bool) {r : Nat} (h : r < 9218868437227405312) : double.nearest s (rM r) (rE r) = double.word s r := by
  by_cases h0 : rM r = 0
  · have hr := rung_back h
    have hc := rung_can h
    rw [h0, nearest_zero]
    have hE : rE r = -1074 := by rcases hc.top with k | k; · omega
                                 · exact k
    rw [hE, h0] at hr
    simp [rung] at hr
    rw [← hr]
  · rw [nearest_can s (rung_can h) h0 (eqv_refl _ _), rung_back h]
end Go.Proofs.YtlemappbblofcaaDoor
