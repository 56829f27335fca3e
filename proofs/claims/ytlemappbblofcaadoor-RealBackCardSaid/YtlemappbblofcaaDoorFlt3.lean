/- Binary64 without a sign: words are in the order of their numbers; a number made greater by a power of two. No condition. -/
import Derived.Test.YtlemappbblofcaaDoorFlt2
namespace Go.Proofs.YtlemappbblofcaaDoor
open Ieee
set_option linter.unusedVariables false

theorem word_f (r : Nat) : double.word false r = r := by rw [word_d]; simp
theorem read_nn {r : Nat} (h : r < 9218868437227405312) : double.read r = .number false (rM r) (rE r) := by
  have := read_fin false h
  rwa [word_f] at this
theorem read_nn_inf : double.read 9218868437227405312 = .infinity false := by
  have := read_inf false
  rwa [word_f] at this
theorem signed_f (m u : Nat) : signed false m u = ((m * 2 ^ u : Nat) : Int) := by unfold signed; rw [Nat.shiftLeft_eq]; simp
theorem rungs_mono {r r' : Nat} (h : r < r') (h' : r' < 9218868437227405312) : rE r ≤ rE r' ∧ rM r < rM r' * 2 ^ (rE r' - rE r).toNat := by
  have c := rung_can (r := r) (by omega)
  have c' := rung_can h'
  have b := rung_back (r := r) (by omega)
  have b' := rung_back h'
  unfold rung at b b'
  have hE : rE r ≤ rE r' := by
    unfold rE
    by_cases k : r < 4503599627370496
    · rw [if_pos k]; have := c'.lo; unfold rE at this; exact this
    · rw [if_neg k, if_neg (by omega)]
      have := Nat.div_le_div_right (c := 4503599627370496) (Nat.le_of_lt h)
      omega
  refine ⟨hE, ?_⟩
  by_cases e : rE r = rE r'
  · rw [e, Int.sub_self]
    rw [e] at b
    simp only [Int.toNat_zero, Nat.pow_zero, Nat.mul_one]
    omega
  · obtain ⟨d, hd⟩ : ∃ d, (rE r' - rE r).toNat = d + 1 := ⟨(rE r' - rE r).toNat - 1, by omega⟩
    rw [hd]
    have hlt := c.lt
    have htop : 4503599627370496 ≤ rM r' := by
      rcases c'.top with k | k
      · exact k
      · have := c.lo; omega
    have p : 1 ≤ 2 ^ d := Nat.two_pow_pos d
    rw [Nat.pow_succ, Nat.mul_comm (2 ^ d) 2, ← Nat.mul_assoc]
    have q := Nat.mul_le_mul_left (rM r' * 2) p
    omega
theorem order_lt {r r' : Nat} (h : r < r') (h' : r' ≤ 9218868437227405312) : double.order r r' = some .lt := by
  unfold Format.order
  rw [read_nn (r := r) (by omega)]
  by_cases k : r' = 9218868437227405312
  · subst k; rw [read_nn_inf]; rfl
  · obtain ⟨hE, hM⟩ := rungs_mono h (by omega)
    rw [read_nn (r := r') (by omega)]
    simp only [Datum.order, Int.min_eq_left hE, Int.sub_self, signed_f]
    congr 1
    simp only [Int.toNat_zero, Nat.pow_zero, Nat.mul_one]
    rw [Int.compare_eq_lt]
    exact Int.ofNat_lt.2 hM
theorem order_gt {r r' : Nat} (h : r' < r) (h' : r ≤ 9218868437227405312) : double.order r r' = some .gt := by
  unfold Format.order
  rw [read_nn (r := r') (by omega)]
  by_cases k : r = 9218868437227405312
  · subst k; rw [read_nn_inf]; rfl
  · obtain ⟨hE, hM⟩ := rungs_mono h (by omega)
    rw [read_nn (r := r) (by omega)]
    simp only [Datum.order, Int.min_eq_right hE, Int.sub_self, signed_f]
    congr 1
    simp only [Int.toNat_zero, Nat.pow_zero, Nat.mul_one]
    rw [Int.compare_eq_gt]
    exact Int.ofNat_lt.2 hM
theorem order_eq {r : Nat} (h' : r ≤ 9218868437227405312) : double.order r r = some .eq := by
  unfold Format.order
  by_cases k : r = 9218868437227405312
  · subst k; rw [read_nn_inf]; rfl
  · rw [read_nn (r := r) (by omega)]
    simp [Datum.order]

/-- A finite number that is not 0 with all its 53 bits. -/
def nK (r : Nat) : Nat := if r < 4503599627370496 then 52 - r.log2 else 0
def nM (r : Nat) : Nat := rM r * 2 ^ nK r
def nE (r : Nat) : Int := rE r - nK r
theorem nM_bd {r : Nat} (h0 : r ≠ 0) (h : r < 9218868437227405312) : 4503599627370496 ≤ nM r ∧ nM r < 9007199254740992 := by
  unfold nM nK
  by_cases k : r < 4503599627370496
  · have e : rM r = r := by unfold rM; rw [if_pos k]
    rw [if_pos k, e]
    have hl := log2_lt52 (M := r) (by omega) h0
    have a1 : 2 ^ r.log2 ≤ r := Nat.log2_self_le h0
    have a2 : r < 2 ^ (r.log2 + 1) := Nat.lt_log2_self
    have e1 : 2 ^ r.log2 * 2 ^ (52 - r.log2) = 4503599627370496 := by rw [← Nat.pow_add, show r.log2 + (52 - r.log2) = 52 by omega]
    have e2 : 2 ^ (r.log2 + 1) * 2 ^ (52 - r.log2) = 9007199254740992 := by rw [← Nat.pow_add, show r.log2 + 1 + (52 - r.log2) = 53 by omega]
    have b1 := Nat.mul_le_mul_right (2 ^ (52 - r.log2)) a1
    have b2 := Nat.mul_lt_mul_of_pos_right a2 (pow_pos2 (52 - r.log2))
    rw [e1] at b1
    rw [e2] at b2
    exact ⟨b1, b2⟩
  · rw [if_neg k, Nat.pow_zero, Nat.mul_one]
    have c := rung_can h
    refine ⟨?_, c.lt⟩
    unfold rM
    rw [if_neg k]
    omega
theorem nE_bd {r : Nat} (h : r < 9218868437227405312) : -1126 ≤ nE r ∧ nE r ≤ 971 ∧ (4503599627370496 ≤ r → -1074 ≤ nE r) := by
  have c := rung_can h
  have := c.lo
  have := c.hi
  unfold nE nK
  by_cases k : r < 4503599627370496
  · rw [if_pos k]; exact ⟨by omega, by omega, by omega⟩
  · rw [if_neg k]; exact ⟨by omega, by omega, by omega⟩
theorem eqv_n (r : Nat) : Eqv (rM r) (rE r) (nM r) (nE r) := Or.inr ⟨nK r, rfl, rfl⟩

theorem mul_nn {x y : Nat} (hx : x < 9218868437227405312) (hy : y < 9218868437227405312) : double.mul x y = some (double.nearest false (rM x * rM y) (rE x + rE y)) := by
  unfold Format.mul
  rw [read_nn hx, read_nn hy]
  rfl
theorem pow_word (e : Int) (h : -1022 ≤ e ∧ e ≤ 1023) : rM ((e + 1023).toNat * 4503599627370496) = 4503599627370496 ∧ rE ((e + 1023).toNat * 4503599627370496) = e - 52 := by
  unfold rM rE
  have k : ¬ (e + 1023).toNat * 4503599627370496 < 4503599627370496 := by omega
  rw [if_neg k, if_neg k]
  constructor
  · rw [Nat.mul_mod_left]
  · rw [Nat.mul_div_cancel _ (by decide)]; omega
/-- A normal number in the format's own form, by its fields. -/
theorem norm_word (M : Nat) (E : Int) (h1 : 4503599627370496 ≤ M) (h2 : M < 9007199254740992) (lo : -1074 ≤ E) (hi : E ≤ 971) : (E + 1075).toNat * 4503599627370496 + (M - 4503599627370496) = rung M E := by
  unfold rung; omega
theorem up52 {r : Nat} (h0 : r ≠ 0) (h : r < 4503599627370496) : double.mul r 4841369599423283200 = some (rung (nM r) (nE r + 52)) := by
  obtain ⟨e1, e2⟩ := pow_word 52 (by omega)
  have e3 : ((52 : Int) + 1023).toNat * 4503599627370496 = 4841369599423283200 := by decide +kernel
  rw [e3] at e1 e2
  rw [mul_nn (by omega) (by decide), e1, e2]
  have hb := nM_bd h0 (by omega : r < 9218868437227405312)
  have hE := nE_bd (by omega : r < 9218868437227405312)
  have hr : rM r = r := by unfold rM; rw [if_pos h]
  have hr2 : rE r = -1074 := by unfold rE; rw [if_pos h]
  have hc : Can (nM r) (nE r + 52) := by
    have : nE r = -1074 - (52 - r.log2 : Nat) := by unfold nE nK; rw [if_pos h, hr2]
    exact ⟨hb.2, by omega, by omega, Or.inl hb.1⟩
  have hk : (nK r : Int) ≤ 52 := by unfold nK; rw [if_pos h]; omega
  have e52 : (4503599627370496 : Nat) = 2 ^ nK r * 2 ^ (52 - nK r) := by
    rw [← Nat.pow_add, show nK r + (52 - nK r) = 52 by omega]
  have hv : Eqv (rM r * 4503599627370496) (rE r + (52 - 52)) (nM r) (nE r + 52) := by
    refine Or.inl ⟨52 - nK r, ?_, ?_⟩
    · unfold nM
      rw [Nat.mul_assoc, ← e52]
    · have : nE r = rE r - nK r := rfl
      omega
  rw [nearest_can false hc (by omega) hv, word_f]
/-- Ldexp of a finite number without a sign: rounded once. -/
def ldW (r : Nat) (p : Int) : Nat := if r = 0 then 0 else if r = 9218868437227405312 then 9218868437227405312 else double.nearest false (rM r) (rE r + p)
end Go.Proofs.YtlemappbblofcaaDoor
