/- Binary64: a whole number of more than 53 bits is rounded by less than half of what its last bit is worth; what is left of a number less its whole part is below 1. No condition. -/
import Derived.Test.YtlemappbblofcaaDoorFlt5
namespace Go.Proofs.YtlemappbblofcaaDoor
open Ieee
set_option linter.unusedVariables false

/-- Rounding to even: at most half a unit off. -/
theorem cut_even_bd (s : Bool) (n d : Nat) (hd : d ≤ n.log2 + 2) : 2 * n ≤ 2 * (Toward.even.cut s n d * 2 ^ d) + 2 ^ d ∧ 2 * (Toward.even.cut s n d * 2 ^ d) ≤ 2 * n + 2 ^ d := by
  unfold Toward.cut
  rw [Nat.min_eq_left hd]
  simp only [Nat.shiftLeft_eq, Nat.one_mul]
  have h0 := Nat.two_pow_pos d
  have e := Nat.div_add_mod n (2 ^ d)
  have hm := Nat.mod_lt n h0
  generalize 2 ^ d = g at *
  generalize n / g = q at *
  generalize n % g = r at *
  have e1 : q * g = g * q := Nat.mul_comm _ _
  by_cases c1 : g < 2 * r
  · rw [decide_eq_true c1]
    simp only [Bool.true_or, Bool.toNat_true]
    rw [Nat.add_mul, Nat.one_mul, e1]
    omega
  · rw [decide_eq_false c1]
    by_cases c2 : (g == 2 * r && q % 2 == 1) = true
    · simp only [Bool.false_or, c2, Bool.toNat_true]
      rw [Nat.add_mul, Nat.one_mul, e1]
      have : g = 2 * r := by
        have := (Bool.and_eq_true _ _).mp c2
        exact beq_iff_eq.1 this.1
      omega
    · rw [Bool.not_eq_true] at c2
      simp only [Bool.false_or, c2, Bool.toNat_false, Nat.add_zero]
      rw [e1]
      omega
theorem cut_even_top (s : Bool) (n d : Nat) (hd : d ≤ n.log2 + 2) (k : Nat) (h1 : k * 2 ^ d ≤ n) (h2 : n < 2 * k * 2 ^ d) : k ≤ Toward.even.cut s n d ∧ Toward.even.cut s n d ≤ 2 * k := by
  unfold Toward.cut
  rw [Nat.min_eq_left hd]
  simp only [Nat.shiftLeft_eq, Nat.one_mul]
  have h0 := Nat.two_pow_pos d
  have a : k ≤ n / 2 ^ d := (Nat.le_div_iff_mul_le h0).2 h1
  have b : n / 2 ^ d < 2 * k := (Nat.div_lt_iff_lt_mul h0).2 h2
  generalize n / 2 ^ d = q at *
  generalize (decide (2 ^ d < 2 * (n % 2 ^ d)) || 2 ^ d == 2 * (n % 2 ^ d) && q % 2 == 1) = t
  cases t <;> simp <;> omega
/-- A whole number from 2^53 to 2^63, rounded. -/
theorem big_of (s : Bool) (n : Nat) (h1 : 9007199254740992 ≤ n) (h2 : n ≤ 9223372036854775808) : ∃ (M : Nat) (E : Int), double.read (double.nearest s n 0) = .number s M E ∧ 4503599627370496 ≤ M ∧ M < 9007199254740992 ∧ 0 ≤ E ∧ E ≤ 11 ∧
    n ≤ M * 2 ^ E.toNat + 512 ∧ M * 2 ^ E.toNat ≤ n + 512 ∧ M * 2 ^ E.toNat ≤ 9223372036854775808 ∧ (11 ≤ E → M = 4503599627370496) := by
  have h0 : n ≠ 0 := by omega
  have l1 : 53 ≤ n.log2 := (Nat.le_log2 h0).2 (by omega)
  have l2 : n.log2 < 64 := (Nat.log2_lt h0).2 (by omega)
  obtain ⟨L, hL⟩ : ∃ L, n.log2 = L + 52 := ⟨n.log2 - 52, by omega⟩
  have p1 : 2 ^ n.log2 ≤ n := Nat.log2_self_le h0
  have p2 : n < 2 ^ (n.log2 + 1) := Nat.lt_log2_self
  have q1 : 4503599627370496 * 2 ^ L ≤ n := by
    rw [hL, Nat.pow_add, Nat.mul_comm] at p1
    exact p1
  have q2 : n < 2 * 4503599627370496 * 2 ^ L := by
    rw [hL, show L + 52 + 1 = 53 + L by omega, Nat.pow_add] at p2
    exact p2
  have hd : L ≤ n.log2 + 2 := by omega
  obtain ⟨t1, t2⟩ := cut_even_top s n L hd _ q1 q2
  obtain ⟨b1, b2⟩ := cut_even_bd s n L hd
  have hnear : double.nearest s n 0 = double.word s (min ((L + 1074) * 4503599627370496 + Toward.even.cut s n L) 9218868437227405312) := by
    unfold Format.nearest
    rw [if_neg h0, d_frac, d_least, d_binade, d_inf, hL]
    have e : max ((0 : Int) + ((L + 52 : Nat) : Int) - ((52 : Nat) : Int)) (-1074) = (L : Int) := by omega
    simp only [e]
    have a1 : ((0 : Int) - (L : Int)).toNat = 0 := by omega
    have a2 : ((L : Int) - 0).toNat = L := by omega
    have a3 : ((L : Int) - -1074).toNat = L + 1074 := by omega
    rw [a1, a2, a3, Nat.shiftLeft_zero]
  have hx : L = 11 → Toward.even.cut s n L = 4503599627370496 := by
    intro h
    subst h
    have en : n = 4503599627370496 * 2 ^ 11 := by
      have : (2 : Nat) ^ 11 = 2048 := by decide
      rw [this] at q1 ⊢
      omega
    rw [en]
    exact cut_pow _ _ _ _ (by decide)
  generalize Toward.even.cut s n L = K at *
  have hp : 2 ^ L ≤ 1024 ∨ L = 11 := by
    by_cases c : L = 11
    · exact Or.inr c
    · left
      exact Nat.le_trans (Nat.pow_le_pow_right (by decide) (show L ≤ 10 by omega)) (by decide)
  rw [hnear, Nat.min_eq_left (by omega)]
  by_cases c : K < 9007199254740992
  · have hc : Can K (L : Int) := ⟨c, by omega, by omega, Or.inl t1⟩
    have hr := read_can s hc
    have er : rung K (L : Int) = (L + 1074) * 4503599627370496 + K := by
      unfold rung
      rw [show ((L : Int) + 1074).toNat = L + 1074 by omega]
    rw [er] at hr
    refine ⟨K, (L : Int), hr, t1, c, by omega, by omega, ?_, ?_, ?_, ?_⟩
    all_goals try rw [Int.toNat_natCast]
    · rcases hp with hp | hp
      · omega
      · rw [hx hp]; subst hp
        have : (2 : Nat) ^ 11 = 2048 := by decide
        rw [this]; omega
    · rcases hp with hp | hp
      · omega
      · rw [hx hp]; subst hp
        have : (2 : Nat) ^ 11 = 2048 := by decide
        rw [this]; omega
    · rcases hp with hp | hp
      · have hL10 : 2 ^ L ≤ 2 ^ 10 := hp
        have := Nat.mul_le_mul (Nat.le_of_lt_succ (Nat.lt_succ_of_lt c)) hL10
        have a : (2 : Nat) ^ 10 = 1024 := by decide
        have : K * 2 ^ L ≤ 9007199254740991 * 1024 := Nat.mul_le_mul (by omega) hp
        omega
      · rw [hx hp]; subst hp; decide
    · intro h; exact hx (by omega)
  · have eK : K = 9007199254740992 := by omega
    have hL10 : L ≠ 11 := by
      intro h
      have := hx h
      omega
    have hp2 : 2 ^ L ≤ 1024 := by
      rcases hp with hp | hp
      · exact hp
      · exact absurd hp hL10
    have hc : Can 4503599627370496 ((L : Int) + 1) := ⟨by decide, by omega, by omega, Or.inl (by decide)⟩
    have hr := read_can s hc
    have er : rung 4503599627370496 ((L : Int) + 1) = (L + 1074) * 4503599627370496 + K := by
      unfold rung
      rw [show ((L : Int) + 1 + 1074).toNat = L + 1074 + 1 by omega, eK]
      omega
    rw [er] at hr
    have e2 : 4503599627370496 * 2 ^ ((L : Int) + 1).toNat = K * 2 ^ L := by
      rw [show ((L : Int) + 1).toNat = L + 1 by omega, eK, Nat.pow_succ, Nat.mul_comm (2 ^ L) 2, ← Nat.mul_assoc]
    refine ⟨4503599627370496, (L : Int) + 1, hr, by decide, by decide, by omega, by omega, ?_, ?_, ?_, fun _ => rfl⟩
    all_goals try rw [e2]
    · omega
    · omega
    · rw [eK]
      have := Nat.mul_le_mul_left 9007199254740992 hp2
      omega
end Go.Proofs.YtlemappbblofcaaDoor
