/- Binary64: rounding hangs on the number alone, not on how it is spelled; what is too small is 0, what is too great has no end. No condition. -/
import Derived.Test.YtlemappbblofcaaDoorFlt
namespace Go.Proofs.YtlemappbblofcaaDoor
open Ieee
set_option linter.unusedVariables false

theorem pow_pos2 (k : Nat) : 0 < 2 ^ k := Nat.two_pow_pos k
theorem pow_ne (k : Nat) : 2 ^ k ≠ 0 := Nat.ne_of_gt (Nat.two_pow_pos k)
theorem cut_scale (s : Bool) (n k d : Nat) (h : n ≠ 0) : Toward.even.cut s (n * 2 ^ k) (d + k) = Toward.even.cut s n d := by
  unfold Toward.cut
  have e : min (d + k) ((n * 2 ^ k).log2 + 2) = min d (n.log2 + 2) + k := by rw [log2_mul_pow n k h]; omega
  simp only [e]
  generalize min d (n.log2 + 2) = g
  simp only [Nat.shiftLeft_eq, Nat.one_mul, Nat.pow_add]
  have h0 := pow_pos2 k
  have hg := pow_pos2 g
  have e1 : n * 2 ^ k / (2 ^ g * 2 ^ k) = n / 2 ^ g := Nat.mul_div_mul_right _ _ h0
  have e2 : n * 2 ^ k % (2 ^ g * 2 ^ k) = n % 2 ^ g * 2 ^ k := Nat.mul_mod_mul_right _ _ _
  rw [e1, e2]
  have e3 : (decide (2 ^ g * 2 ^ k < 2 * (n % 2 ^ g * 2 ^ k))) = decide (2 ^ g < 2 * (n % 2 ^ g)) := by
    rw [← Nat.mul_assoc]
    exact decide_eq_decide.2 (Nat.mul_lt_mul_right h0)
  have e4 : (2 ^ g * 2 ^ k == 2 * (n % 2 ^ g * 2 ^ k)) = (2 ^ g == 2 * (n % 2 ^ g)) := by
    rw [← Nat.mul_assoc, Bool.eq_iff_iff, beq_iff_eq, beq_iff_eq]
    exact ⟨fun q => Nat.eq_of_mul_eq_mul_right h0 q, fun q => congrArg (· * 2 ^ k) q⟩
  rw [e3, e4]
/-- Rounding hangs on the number alone. -/
theorem nearest_shift (s : Bool) (m k : Nat) (p : Int) (h : m ≠ 0) : double.nearest s (m * 2 ^ k) (p - k) = double.nearest s m p := by
  have hm : m * 2 ^ k ≠ 0 := Nat.mul_ne_zero h (pow_ne k)
  unfold Format.nearest
  rw [if_neg hm, if_neg h, log2_mul_pow m k h, d_frac, d_least]
  have e : max (p - (k : Int) + ((m.log2 + k : Nat) : Int) - ((52 : Nat) : Int)) (-1074) = max (p + ((m.log2 : Nat) : Int) - ((52 : Nat) : Int)) (-1074) := by congr 1; omega
  simp only [e]
  generalize max (p + ((m.log2 : Nat) : Int) - ((52 : Nat) : Int)) (-1074) = last
  have ec : Toward.even.cut s ((m * 2 ^ k) <<< (p - (k : Int) - last).toNat) (last - (p - (k : Int))).toNat = Toward.even.cut s (m <<< (p - last).toNat) (last - p).toNat := by
    by_cases c1 : last ≤ p - k
    · have a1 : (last - (p - (k : Int))).toNat = 0 := by omega
      have a2 : (last - p).toNat = 0 := by omega
      have a3 : (p - last).toNat = k + (p - (k : Int) - last).toNat := by omega
      rw [a1, a2, cut_zero, cut_zero, a3]
      simp only [Nat.shiftLeft_eq, Nat.pow_add, Nat.mul_assoc]
    · by_cases c2 : p ≤ last
      · have a1 : (p - (k : Int) - last).toNat = 0 := by omega
        have a2 : (p - last).toNat = 0 := by omega
        have a3 : (last - (p - (k : Int))).toNat = (last - p).toNat + k := by omega
        rw [a1, a2, a3, Nat.shiftLeft_zero, Nat.shiftLeft_zero, cut_scale _ _ _ _ h]
      · have a1 : (p - (k : Int) - last).toNat = 0 := by omega
        have a2 : (last - p).toNat = 0 := by omega
        obtain ⟨j, hj⟩ : ∃ j, j = (last - (p - (k : Int))).toNat := ⟨_, rfl⟩
        have a3 : k = (p - last).toNat + j := by omega
        rw [a1, a2, ← hj, Nat.shiftLeft_zero, cut_zero, Nat.shiftLeft_eq]
        conv => lhs; rw [a3, Nat.pow_add, ← Nat.mul_assoc]
        exact cut_pow _ _ _ _ (Nat.mul_ne_zero h (pow_ne _))
  rw [ec]
theorem nearest_eqv (s : Bool) {m : Nat} {p : Int} {m' : Nat} {p' : Int} (h0 : m' ≠ 0) (e : Eqv m p m' p') : double.nearest s m p = double.nearest s m' p' := by
  rcases e with ⟨k, rfl, rfl⟩ | ⟨k, rfl, rfl⟩
  · exact nearest_shift s m' k p' h0
  · have hm : m ≠ 0 := by rintro rfl; simp at h0
    exact (nearest_shift s m k p hm).symm
/-- Too small: 0. -/
theorem nearest_tiny (s : Bool) (m : Nat) (p : Int) (h : m < 9007199254740992) (hp : p < -1127) : double.nearest s m p = double.word s 0 := by
  by_cases h0 : m = 0
  · rw [h0, nearest_zero]
  · unfold Format.nearest
    have hl := log2_lt53 h h0
    rw [if_neg h0, d_frac, d_least]
    have e : max (p + ((m.log2 : Nat) : Int) - ((52 : Nat) : Int)) (-1074) = -1074 := by omega
    simp only [e]
    have a1 : (p - (-1074 : Int)).toNat = 0 := by omega
    have a2 : ((-1074 : Int) - (-1074 : Int)).toNat = 0 := by decide
    obtain ⟨d, hd⟩ : ∃ d : Nat, d = ((-1074 : Int) - p).toNat := ⟨_, rfl⟩
    have hd54 : 54 ≤ d := by omega
    rw [a1, a2, ← hd, Nat.shiftLeft_zero, Nat.zero_mul, Nat.zero_add]
    have ec : Toward.even.cut s m d = 0 := by
      unfold Toward.cut
      obtain ⟨g, hg⟩ : ∃ g, g = min d (m.log2 + 2) := ⟨_, rfl⟩
      have hg2 : m.log2 + 2 ≤ g := by omega
      simp only [← hg, Nat.shiftLeft_eq, Nat.one_mul]
      have b1 : m < 2 ^ (m.log2 + 1) := Nat.lt_log2_self
      have b2 : 2 ^ (m.log2 + 2) ≤ 2 ^ g := Nat.pow_le_pow_right (by decide) hg2
      have b3 : 2 ^ (m.log2 + 2) = 2 * 2 ^ (m.log2 + 1) := by rw [Nat.pow_succ]; omega
      have b4 : m < 2 ^ g := by omega
      rw [Nat.div_eq_of_lt b4, Nat.mod_eq_of_lt b4]
      have c1 : decide (2 ^ g < 2 * m) = false := decide_eq_false (by omega)
      have c2 : (2 ^ g == 2 * m) = false := beq_eq_false_iff_ne.2 (by omega)
      rw [c1, c2]
      rfl
    rw [ec, Nat.zero_min]
theorem word_mk (s : Bool) {a b : Nat} (h : a = b) : double.word s a = double.word s b := by rw [h]
/-- Too great: no end. -/
theorem nearest_huge (s : Bool) (m : Nat) (p : Int) (h : 4503599627370496 ≤ m) (hp : 971 < p) : double.nearest s m p = double.word s 9218868437227405312 := by
  have h0 : m ≠ 0 := by omega
  have hl := log2_ge52 h
  unfold Format.nearest
  rw [if_neg h0, d_frac, d_least, d_binade, d_inf]
  dsimp only
  apply word_mk
  apply Nat.min_eq_right
  obtain ⟨last, hlast⟩ : ∃ last, last = max (p + ((m.log2 : Nat) : Int) - ((52 : Nat) : Int)) (-1074) := ⟨_, rfl⟩
  rw [← hlast]
  have h1 : 972 ≤ last := by omega
  by_cases h2 : 973 ≤ last
  · have b : 2047 ≤ (last - -1074).toNat := by omega
    have := Nat.mul_le_mul_right 4503599627370496 b
    exact Nat.le_trans (by decide) (Nat.le_trans this (Nat.le_add_right _ _))
  · have e1 : last = 972 := by omega
    have e2 : p = 972 := by omega
    subst e1 e2
    rw [show ((972 : Int) - 972).toNat = 0 from rfl, Nat.shiftLeft_zero, cut_zero]
    have e3 : ((972 : Int) - -1074).toNat = 2046 := rfl
    rw [e3]
    exact Nat.le_trans (by decide) (Nat.add_le_add_left h _)
/-- Each number of at most 53 bits that is not too small has the format's own form. -/
theorem can_of (m : Nat) (p : Int) (h0 : m ≠ 0) (h : m < 9007199254740992) (lo : -1074 ≤ p) (hi : p ≤ 971) : ∃ k : Nat, Can (m * 2 ^ k) (p - k) := by
  have hl := log2_lt53 h h0
  by_cases c : (52 - m.log2 : Nat) ≤ (p + 1074).toNat
  · refine ⟨52 - m.log2, ?_⟩
    have a1 : 2 ^ m.log2 ≤ m := Nat.log2_self_le h0
    have a2 : m < 2 ^ (m.log2 + 1) := Nat.lt_log2_self
    have e1 : 2 ^ m.log2 * 2 ^ (52 - m.log2) = 4503599627370496 := by rw [← Nat.pow_add, show m.log2 + (52 - m.log2) = 52 by omega]
    have e2 : 2 ^ (m.log2 + 1) * 2 ^ (52 - m.log2) = 9007199254740992 := by rw [← Nat.pow_add, show m.log2 + 1 + (52 - m.log2) = 53 by omega]
    have b1 := Nat.mul_le_mul_right (2 ^ (52 - m.log2)) a1
    have b2 := Nat.mul_lt_mul_of_pos_right a2 (pow_pos2 (52 - m.log2))
    rw [e1] at b1
    rw [e2] at b2
    exact ⟨b2, by omega, by omega, Or.inl b1⟩
  · refine ⟨(p + 1074).toNat, ?_⟩
    have a2 : m < 2 ^ (m.log2 + 1) := Nat.lt_log2_self
    have b2 := Nat.mul_lt_mul_of_pos_right a2 (pow_pos2 (p + 1074).toNat)
    rw [← Nat.pow_add] at b2
    have b3 : 2 ^ (m.log2 + 1 + (p + 1074).toNat) ≤ 2 ^ 53 := Nat.pow_le_pow_right (by decide) (by omega)
    have b4 : (2 : Nat) ^ 53 = 9007199254740992 := by decide
    exact ⟨by omega, by omega, by omega, Or.inr (by omega)⟩
end Go.Proofs.YtlemappbblofcaaDoor
