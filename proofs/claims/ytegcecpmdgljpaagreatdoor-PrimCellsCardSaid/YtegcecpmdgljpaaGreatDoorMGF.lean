/- Binary64 as plain mathematics: what a word stands for, and that a number which the format has is written as its own word. No condition. Binary64: rounding hangs on the number alone, not on how it is spelled; what is too small is 0, what is too great has no end. No condition. Binary64 without a sign: words are in the order of their numbers; a number made greater by a power of two. No condition. Binary64: whole numbers of at most 53 bits: sums, differences, products, order, halves. No condition. Binary64: towards 0; the ends of the cells; how far a whole number is rounded. No condition. Binary64: a whole number of more than 53 bits is rounded by less than half of what its last bit is worth; what is left of a number less its whole part is below 1. No condition. The fields of a binary64 word by operations on bits. No condition. Binary64: a number less its whole part is below 1, without its sign. No condition. -/
import Ieee.Arith
import Derived.Laws.FloatBits
import Derived.Laws.Cover2
import Derived.Laws.FloatArith
import Derived.Laws.BitsAllLaws
namespace Go.Proofs.YtegcecpmdgljpaaGreatDoor
open Ieee
set_option linter.unusedVariables false

theorem d_binade : double.binade = 4503599627370496 := by decide +kernel
theorem d_inf : double.infRung = 9218868437227405312 := by decide +kernel
theorem d_sw : double.signWeight = 9223372036854775808 := by decide +kernel
theorem d_least : double.leastPlace = -1074 := by decide +kernel
theorem d_frac : double.fractionBits = 52 := rfl

/-- The whole part and the place of a rung. -/
def rM (r : Nat) : Nat := if r < 4503599627370496 then r else 4503599627370496 + r % 4503599627370496
def rE (r : Nat) : Int := if r < 4503599627370496 then -1074 else (r / 4503599627370496 : Nat) - 1075
/-- A number in the format's own form. -/
structure Can (M : Nat) (E : Int) : Prop where
  lt : M < 9007199254740992
  lo : -1074 ≤ E
  hi : E ≤ 971
  top : 4503599627370496 ≤ M ∨ E = -1074
def rung (M : Nat) (E : Int) : Nat := (E + 1074).toNat * 4503599627370496 + M

theorem rung_can {r : Nat} (h : r < 9218868437227405312) : Can (rM r) (rE r) := by
  unfold rM rE
  by_cases h1 : r < 4503599627370496
  · rw [if_pos h1, if_pos h1]; exact ⟨by omega, by omega, by omega, Or.inr rfl⟩
  · rw [if_neg h1, if_neg h1]; exact ⟨by omega, by omega, by omega, Or.inl (by omega)⟩
theorem rung_back {r : Nat} (h : r < 9218868437227405312) : rung (rM r) (rE r) = r := by
  unfold rung rM rE
  by_cases h1 : r < 4503599627370496
  · rw [if_pos h1, if_pos h1]; omega
  · rw [if_neg h1, if_neg h1]; omega
theorem rung_lt {M : Nat} {E : Int} (h : Can M E) : rung M E < 9218868437227405312 := by
  obtain ⟨h1, h2, h3, h4⟩ := h
  unfold rung
  omega
theorem rM_rung {M : Nat} {E : Int} (h : Can M E) : rM (rung M E) = M := by
  obtain ⟨h1, h2, h3, h4⟩ := h
  unfold rM rung
  by_cases k : (E + 1074).toNat * 4503599627370496 + M < 4503599627370496
  · rw [if_pos k]; omega
  · rw [if_neg k]; omega
theorem rE_rung {M : Nat} {E : Int} (h : Can M E) : rE (rung M E) = E := by
  obtain ⟨h1, h2, h3, h4⟩ := h
  unfold rE rung
  by_cases k : (E + 1074).toNat * 4503599627370496 + M < 4503599627370496
  · rw [if_pos k]; omega
  · rw [if_neg k]; omega

theorem word_d (s : Bool) (r : Nat) : double.word s r = (if s then 9223372036854775808 else 0) + r := by
  unfold Format.word
  rw [d_sw]
  cases s <;> simp
theorem word_split (n : Nat) (h : n < 18446744073709551616) : n = double.word (decide (9223372036854775808 ≤ n)) (n % 9223372036854775808) := by
  rw [word_d]
  by_cases k : 9223372036854775808 ≤ n
  · rw [decide_eq_true k]; simp only [if_true]; omega
  · rw [decide_eq_false k]; simp; omega
theorem read_word (s : Bool) (r : Nat) (h : r < 9223372036854775808) : double.read (double.word s r) =
    if r < 9218868437227405312 then .number s (rM r) (rE r) else if r = 9218868437227405312 then .infinity s else .nan s (r - 9218868437227405312) := by
  unfold Format.read
  rw [word_d, d_sw, d_binade, d_inf, d_least]
  have e1 : ((if s = true then 9223372036854775808 else 0) + r) / 9223372036854775808 % 2 = if s then 1 else 0 := by cases s <;> simp <;> omega
  have e2 : ((if s = true then 9223372036854775808 else 0) + r) % 9223372036854775808 = r := by cases s <;> simp <;> omega
  have e3 : ((if s = true then 1 else 0 : Nat) == 1) = s := by cases s <;> rfl
  simp only [e1, e2, e3]
  by_cases h1 : r < 4503599627370496
  · rw [if_pos h1, if_pos (by omega)]
    unfold rM rE
    rw [if_pos h1, if_pos h1]
  · rw [if_neg h1]
    by_cases h2 : r < 9218868437227405312
    · rw [if_pos h2, if_pos h2]
      unfold rM rE
      rw [if_neg h1, if_neg h1]
      congr 1
      omega
    · rw [if_neg h2, if_neg h2]
theorem read_fin (s : Bool) {r : Nat} (h : r < 9218868437227405312) : double.read (double.word s r) = .number s (rM r) (rE r) := by
  rw [read_word s r (by omega), if_pos h]
theorem read_can (s : Bool) {M : Nat} {E : Int} (h : Can M E) : double.read (double.word s (rung M E)) = .number s M E := by
  rw [read_fin s (rung_lt h), rM_rung h, rE_rung h]
theorem read_inf (s : Bool) : double.read (double.word s 9218868437227405312) = .infinity s := by
  rw [read_word s _ (by omega)]; rfl

theorem cut_zero (way : Toward) (s : Bool) (n : Nat) : way.cut s n 0 = n := by
  unfold Toward.cut
  simp only [Nat.zero_min, Nat.shiftLeft_zero, Nat.div_one, Nat.mod_one]
  cases way <;> simp
theorem log2_mul_pow (M k : Nat) (h : M ≠ 0) : (M * 2 ^ k).log2 = M.log2 + k := by
  induction k with
  | zero => simp
  | succ k ih =>
    rw [Nat.pow_succ, ← Nat.mul_assoc, Nat.mul_comm _ 2, Nat.log2_two_mul (Nat.mul_ne_zero h (Nat.ne_of_gt (Nat.two_pow_pos k))), ih]
    rfl
theorem cut_pow (way : Toward) (s : Bool) (M k : Nat) (h : M ≠ 0) : way.cut s (M * 2 ^ k) k = M := by
  unfold Toward.cut
  have hk : min k ((M * 2 ^ k).log2 + 2) = k := by rw [log2_mul_pow M k h]; omega
  have h0 := Nat.two_pow_pos k
  simp only [hk, Nat.shiftLeft_eq, Nat.one_mul]
  rw [Nat.mul_div_cancel _ h0, Nat.mul_mod_left]
  have e : (2 ^ k == 2 * 0) = false := by simp
  cases way <;> simp
theorem log2_lt53 {M : Nat} (h : M < 9007199254740992) (h0 : M ≠ 0) : M.log2 < 53 := (Nat.log2_lt h0).2 (by omega)
theorem log2_ge52 {M : Nat} (h : 4503599627370496 ≤ M) : 52 ≤ M.log2 := (Nat.le_log2 (by omega)).2 (by omega)
theorem log2_lt52 {M : Nat} (h : ¬ 4503599627370496 ≤ M) (h0 : M ≠ 0) : M.log2 < 52 := (Nat.log2_lt h0).2 (by omega)

/-- m * 2^p and M * 2^E are one number. -/
def Eqv (m : Nat) (p : Int) (M : Nat) (E : Int) : Prop := (∃ k : Nat, m = M * 2 ^ k ∧ p = E - k) ∨ (∃ k : Nat, M = m * 2 ^ k ∧ E = p - k)
theorem last_can {M : Nat} {E : Int} (h : Can M E) (h0 : M ≠ 0) : max (E + M.log2 - 52) (-1074) = E := by
  obtain ⟨h1, h2, h3, h4⟩ := h
  have := log2_lt53 h1 h0
  by_cases k : 4503599627370496 ≤ M
  · have := log2_ge52 k; omega
  · have := log2_lt52 k h0; omega
/-- A number that the format has is written as its own word. -/
theorem nearest_can (s : Bool) {m : Nat} {p : Int} {M : Nat} {E : Int} (h : Can M E) (h0 : M ≠ 0) (e : Eqv m p M E) : double.nearest s m p = double.word s (rung M E) := by
  have hl := last_can h h0
  have hr := rung_lt h
  unfold Format.nearest
  rw [d_frac, d_least, d_binade, d_inf]
  rcases e with ⟨k, rfl, rfl⟩ | ⟨k, rfl, rfl⟩
  · have hm : M * 2 ^ k ≠ 0 := Nat.mul_ne_zero h0 (Nat.ne_of_gt (Nat.two_pow_pos k))
    rw [if_neg hm, log2_mul_pow M k h0]
    have hl' : max (E - (k : Int) + ((M.log2 + k : Nat) : Int) - ((52 : Nat) : Int)) (-1074) = E := by rw [← hl]; congr 1; omega
    simp only [hl']
    have e1 : (E - (k : Int) - E).toNat = 0 := by omega
    have e2 : (E - (E - (k : Int))).toNat = k := by omega
    rw [e1, e2, Nat.shiftLeft_zero, cut_pow _ _ _ _ h0]
    have e3 : min ((E - -1074).toNat * 4503599627370496 + M) 9218868437227405312 = rung M E := by
      have : E - -1074 = E + 1074 := Int.sub_neg _ _
      rw [this]
      exact Nat.min_eq_left (Nat.le_of_lt hr)
    rw [e3]
  · have hm : m ≠ 0 := by rintro rfl; simp at h0
    rw [if_neg hm]
    have hL := log2_mul_pow m k hm
    rw [hL] at hl
    have hl' : max (p + ((m.log2 : Nat) : Int) - ((52 : Nat) : Int)) (-1074) = p - (k : Int) := by
      rw [← hl]; congr 1; omega
    simp only [hl']
    have e1 : (p - (p - (k : Int))).toNat = k := by omega
    have e2 : (p - (k : Int) - p).toNat = 0 := by omega
    rw [e1, e2, Nat.shiftLeft_eq, cut_zero]
    have e3 : min ((p - (k : Int) - -1074).toNat * 4503599627370496 + m * 2 ^ k) 9218868437227405312 = rung (m * 2 ^ k) (p - k) := by
      have : p - (k : Int) - -1074 = p - k + 1074 := Int.sub_neg _ _
      rw [this]
      exact Nat.min_eq_left (Nat.le_of_lt hr)
    rw [e3]
theorem nearest_zero (s : Bool) (p : Int) : double.nearest s 0 p = double.word s 0 := by
  unfold Format.nearest; rw [if_pos rfl]
theorem eqv_refl (M : Nat) (E : Int) : Eqv M E M E := Or.inl ⟨0, by simp, by simp⟩
/-- What is read of a finite word is written as that word. -/
theorem nearest_back (s : Bool) {r : Nat} (h : r < 9218868437227405312) : double.nearest s (rM r) (rE r) = double.word s r := by
  by_cases h0 : rM r = 0
  · have hr := rung_back h
    have hc := rung_can h
    rw [h0, nearest_zero]
    have hE : rE r = -1074 := by rcases hc.top with k | k; · omega
                                 · exact k
    rw [hE, h0] at hr
    simp [rung] at hr
    rw [← hr]
  · rw [nearest_can s (rung_can h) h0 (eqv_refl _ _), rung_back h]
end Go.Proofs.YtegcecpmdgljpaaGreatDoor

namespace Go.Proofs.YtegcecpmdgljpaaGreatDoor
open Ieee
set_option linter.unusedVariables false

theorem pow_pos2 (k : Nat) : 0 < 2 ^ k := Nat.two_pow_pos k
theorem pow_ne (k : Nat) : 2 ^ k ≠ 0 := Nat.ne_of_gt (Nat.two_pow_pos k)
theorem cut_scale (s : Bool) (n k d : Nat) (h : n ≠ 0) : Toward.even.cut s (n * 2 ^ k) (d + k) = Toward.even.cut s n d := by
  unfold Toward.cut
  have e : min (d + k) ((n * 2 ^ k).log2 + 2) = min d (n.log2 + 2) + k := by rw [log2_mul_pow n k h]; omega
  simp only [e]
  generalize min d (n.log2 + 2) = g
  simp only [Nat.shiftLeft_eq, Nat.one_mul, Nat.pow_add]
  have h0 := pow_pos2 k
  have hg := pow_pos2 g
  have e1 : n * 2 ^ k / (2 ^ g * 2 ^ k) = n / 2 ^ g := Nat.mul_div_mul_right _ _ h0
  have e2 : n * 2 ^ k % (2 ^ g * 2 ^ k) = n % 2 ^ g * 2 ^ k := Nat.mul_mod_mul_right _ _ _
  rw [e1, e2]
  have e3 : (decide (2 ^ g * 2 ^ k < 2 * (n % 2 ^ g * 2 ^ k))) = decide (2 ^ g < 2 * (n % 2 ^ g)) := by
    rw [← Nat.mul_assoc]
    exact decide_eq_decide.2 (Nat.mul_lt_mul_right h0)
  have e4 : (2 ^ g * 2 ^ k == 2 * (n % 2 ^ g * 2 ^ k)) = (2 ^ g == 2 * (n % 2 ^ g)) := by
    rw [← Nat.mul_assoc, Bool.eq_iff_iff, beq_iff_eq, beq_iff_eq]
    exact ⟨fun q => Nat.eq_of_mul_eq_mul_right h0 q, fun q => congrArg (· * 2 ^ k) q⟩
  rw [e3, e4]
/-- Rounding hangs on the number alone. -/
theorem nearest_shift (s : Bool) (m k : Nat) (p : Int) (h : m ≠ 0) : double.nearest s (m * 2 ^ k) (p - k) = double.nearest s m p := by
  have hm : m * 2 ^ k ≠ 0 := Nat.mul_ne_zero h (pow_ne k)
  unfold Format.nearest
  rw [if_neg hm, if_neg h, log2_mul_pow m k h, d_frac, d_least]
  have e : max (p - (k : Int) + ((m.log2 + k : Nat) : Int) - ((52 : Nat) : Int)) (-1074) = max (p + ((m.log2 : Nat) : Int) - ((52 : Nat) : Int)) (-1074) := by congr 1; omega
  simp only [e]
  generalize max (p + ((m.log2 : Nat) : Int) - ((52 : Nat) : Int)) (-1074) = last
  have ec : Toward.even.cut s ((m * 2 ^ k) <<< (p - (k : Int) - last).toNat) (last - (p - (k : Int))).toNat = Toward.even.cut s (m <<< (p - last).toNat) (last - p).toNat := by
    by_cases c1 : last ≤ p - k
    · have a1 : (last - (p - (k : Int))).toNat = 0 := by omega
      have a2 : (last - p).toNat = 0 := by omega
      have a3 : (p - last).toNat = k + (p - (k : Int) - last).toNat := by omega
      rw [a1, a2, cut_zero, cut_zero, a3]
      simp only [Nat.shiftLeft_eq, Nat.pow_add, Nat.mul_assoc]
    · by_cases c2 : p ≤ last
      · have a1 : (p - (k : Int) - last).toNat = 0 := by omega
        have a2 : (p - last).toNat = 0 := by omega
        have a3 : (last - (p - (k : Int))).toNat = (last - p).toNat + k := by omega
        rw [a1, a2, a3, Nat.shiftLeft_zero, Nat.shiftLeft_zero, cut_scale _ _ _ _ h]
      · have a1 : (p - (k : Int) - last).toNat = 0 := by omega
        have a2 : (last - p).toNat = 0 := by omega
        obtain ⟨j, hj⟩ : ∃ j, j = (last - (p - (k : Int))).toNat := ⟨_, rfl⟩
        have a3 : k = (p - last).toNat + j := by omega
        rw [a1, a2, ← hj, Nat.shiftLeft_zero, cut_zero, Nat.shiftLeft_eq]
        conv => lhs; rw [a3, Nat.pow_add, ← Nat.mul_assoc]
        exact cut_pow _ _ _ _ (Nat.mul_ne_zero h (pow_ne _))
  rw [ec]
theorem nearest_eqv (s : Bool) {m : Nat} {p : Int} {m' : Nat} {p' : Int} (h0 : m' ≠ 0) (e : Eqv m p m' p') : double.nearest s m p = double.nearest s m' p' := by
  rcases e with ⟨k, rfl, rfl⟩ | ⟨k, rfl, rfl⟩
  · exact nearest_shift s m' k p' h0
  · have hm : m ≠ 0 := by rintro rfl; simp at h0
    exact (nearest_shift s m k p hm).symm
/-- Too small: 0. -/
theorem nearest_tiny (s : Bool) (m : Nat) (p : Int) (h : m < 9007199254740992) (hp : p < -1127) : double.nearest s m p = double.word s 0 := by
  by_cases h0 : m = 0
  · rw [h0, nearest_zero]
  · unfold Format.nearest
    have hl := log2_lt53 h h0
    rw [if_neg h0, d_frac, d_least]
    have e : max (p + ((m.log2 : Nat) : Int) - ((52 : Nat) : Int)) (-1074) = -1074 := by omega
    simp only [e]
    have a1 : (p - (-1074 : Int)).toNat = 0 := by omega
    have a2 : ((-1074 : Int) - (-1074 : Int)).toNat = 0 := by decide
    obtain ⟨d, hd⟩ : ∃ d : Nat, d = ((-1074 : Int) - p).toNat := ⟨_, rfl⟩
    have hd54 : 54 ≤ d := by omega
    rw [a1, a2, ← hd, Nat.shiftLeft_zero, Nat.zero_mul, Nat.zero_add]
    have ec : Toward.even.cut s m d = 0 := by
      unfold Toward.cut
      obtain ⟨g, hg⟩ : ∃ g, g = min d (m.log2 + 2) := ⟨_, rfl⟩
      have hg2 : m.log2 + 2 ≤ g := by omega
      simp only [← hg, Nat.shiftLeft_eq, Nat.one_mul]
      have b1 : m < 2 ^ (m.log2 + 1) := Nat.lt_log2_self
      have b2 : 2 ^ (m.log2 + 2) ≤ 2 ^ g := Nat.pow_le_pow_right (by decide) hg2
      have b3 : 2 ^ (m.log2 + 2) = 2 * 2 ^ (m.log2 + 1) := by rw [Nat.pow_succ]; omega
      have b4 : m < 2 ^ g := by omega
      rw [Nat.div_eq_of_lt b4, Nat.mod_eq_of_lt b4]
      have c1 : decide (2 ^ g < 2 * m) = false := decide_eq_false (by omega)
      have c2 : (2 ^ g == 2 * m) = false := beq_eq_false_iff_ne.2 (by omega)
      rw [c1, c2]
      rfl
    rw [ec, Nat.zero_min]
theorem word_mk (s : Bool) {a b : Nat} (h : a = b) : double.word s a = double.word s b := by rw [h]
/-- Too great: no end. -/
theorem nearest_huge (s : Bool) (m : Nat) (p : Int) (h : 4503599627370496 ≤ m) (hp : 971 < p) : double.nearest s m p = double.word s 9218868437227405312 := by
  have h0 : m ≠ 0 := by omega
  have hl := log2_ge52 h
  unfold Format.nearest
  rw [if_neg h0, d_frac, d_least, d_binade, d_inf]
  dsimp only
  apply word_mk
  apply Nat.min_eq_right
  obtain ⟨last, hlast⟩ : ∃ last, last = max (p + ((m.log2 : Nat) : Int) - ((52 : Nat) : Int)) (-1074) := ⟨_, rfl⟩
  rw [← hlast]
  have h1 : 972 ≤ last := by omega
  by_cases h2 : 973 ≤ last
  · have b : 2047 ≤ (last - -1074).toNat := by omega
    have := Nat.mul_le_mul_right 4503599627370496 b
    exact Nat.le_trans (by decide) (Nat.le_trans this (Nat.le_add_right _ _))
  · have e1 : last = 972 := by omega
    have e2 : p = 972 := by omega
    subst e1 e2
    rw [show ((972 : Int) - 972).toNat = 0 from rfl, Nat.shiftLeft_zero, cut_zero]
    have e3 : ((972 : Int) - -1074).toNat = 2046 := rfl
    rw [e3]
    exact Nat.le_trans (by decide) (Nat.add_le_add_left h _)
/-- Each number of at most 53 bits that is not too small has the format's own form. -/
theorem can_of (m : Nat) (p : Int) (h0 : m ≠ 0) (h : m < 9007199254740992) (lo : -1074 ≤ p) (hi : p ≤ 971) : ∃ k : Nat, Can (m * 2 ^ k) (p - k) := by
  have hl := log2_lt53 h h0
  by_cases c : (52 - m.log2 : Nat) ≤ (p + 1074).toNat
  · refine ⟨52 - m.log2, ?_⟩
    have a1 : 2 ^ m.log2 ≤ m := Nat.log2_self_le h0
    have a2 : m < 2 ^ (m.log2 + 1) := Nat.lt_log2_self
    have e1 : 2 ^ m.log2 * 2 ^ (52 - m.log2) = 4503599627370496 := by rw [← Nat.pow_add, show m.log2 + (52 - m.log2) = 52 by omega]
    have e2 : 2 ^ (m.log2 + 1) * 2 ^ (52 - m.log2) = 9007199254740992 := by rw [← Nat.pow_add, show m.log2 + 1 + (52 - m.log2) = 53 by omega]
    have b1 := Nat.mul_le_mul_right (2 ^ (52 - m.log2)) a1
    have b2 := Nat.mul_lt_mul_of_pos_right a2 (pow_pos2 (52 - m.log2))
    rw [e1] at b1
    rw [e2] at b2
    exact ⟨b2, by omega, by omega, Or.inl b1⟩
  · refine ⟨(p + 1074).toNat, ?_⟩
    have a2 : m < 2 ^ (m.log2 + 1) := Nat.lt_log2_self
    have b2 := Nat.mul_lt_mul_of_pos_right a2 (pow_pos2 (p + 1074).toNat)
    rw [← Nat.pow_add] at b2
    have b3 : 2 ^ (m.log2 + 1 + (p + 1074).toNat) ≤ 2 ^ 53 := Nat.pow_le_pow_right (by decide) (by omega)
    have b4 : (2 : Nat) ^ 53 = 9007199254740992 := by decide
    exact ⟨by omega, by omega, by omega, Or.inr (by omega)⟩
end Go.Proofs.YtegcecpmdgljpaaGreatDoor

namespace Go.Proofs.YtegcecpmdgljpaaGreatDoor
open Ieee
set_option linter.unusedVariables false

theorem word_f (r : Nat) : double.word false r = r := by rw [word_d]; simp
theorem read_nn {r : Nat} (h : r < 9218868437227405312) : double.read r = .number false (rM r) (rE r) := by
  have := read_fin false h
  rwa [word_f] at this
theorem read_nn_inf : double.read 9218868437227405312 = .infinity false := by
  have := read_inf false
  rwa [word_f] at this
theorem signed_f (m u : Nat) : signed false m u = ((m * 2 ^ u : Nat) : Int) := by unfold signed; rw [Nat.shiftLeft_eq]; simp
theorem rungs_mono {r r' : Nat} (h : r < r') (h' : r' < 9218868437227405312) : rE r ≤ rE r' ∧ rM r < rM r' * 2 ^ (rE r' - rE r).toNat := by
  have c := rung_can (r := r) (by omega)
  have c' := rung_can h'
  have b := rung_back (r := r) (by omega)
  have b' := rung_back h'
  unfold rung at b b'
  have hE : rE r ≤ rE r' := by
    unfold rE
    by_cases k : r < 4503599627370496
    · rw [if_pos k]; have := c'.lo; unfold rE at this; exact this
    · rw [if_neg k, if_neg (by omega)]
      have := Nat.div_le_div_right (c := 4503599627370496) (Nat.le_of_lt h)
      omega
  refine ⟨hE, ?_⟩
  by_cases e : rE r = rE r'
  · rw [e, Int.sub_self]
    rw [e] at b
    simp only [Int.toNat_zero, Nat.pow_zero, Nat.mul_one]
    omega
  · obtain ⟨d, hd⟩ : ∃ d, (rE r' - rE r).toNat = d + 1 := ⟨(rE r' - rE r).toNat - 1, by omega⟩
    rw [hd]
    have hlt := c.lt
    have htop : 4503599627370496 ≤ rM r' := by
      rcases c'.top with k | k
      · exact k
      · have := c.lo; omega
    have p : 1 ≤ 2 ^ d := Nat.two_pow_pos d
    rw [Nat.pow_succ, Nat.mul_comm (2 ^ d) 2, ← Nat.mul_assoc]
    have q := Nat.mul_le_mul_left (rM r' * 2) p
    omega
theorem order_lt {r r' : Nat} (h : r < r') (h' : r' ≤ 9218868437227405312) : double.order r r' = some .lt := by
  unfold Format.order
  rw [read_nn (r := r) (by omega)]
  by_cases k : r' = 9218868437227405312
  · subst k; rw [read_nn_inf]; rfl
  · obtain ⟨hE, hM⟩ := rungs_mono h (by omega)
    rw [read_nn (r := r') (by omega)]
    simp only [Datum.order, Int.min_eq_left hE, Int.sub_self, signed_f]
    congr 1
    simp only [Int.toNat_zero, Nat.pow_zero, Nat.mul_one]
    rw [Int.compare_eq_lt]
    exact Int.ofNat_lt.2 hM
theorem order_gt {r r' : Nat} (h : r' < r) (h' : r ≤ 9218868437227405312) : double.order r r' = some .gt := by
  unfold Format.order
  rw [read_nn (r := r') (by omega)]
  by_cases k : r = 9218868437227405312
  · subst k; rw [read_nn_inf]; rfl
  · obtain ⟨hE, hM⟩ := rungs_mono h (by omega)
    rw [read_nn (r := r) (by omega)]
    simp only [Datum.order, Int.min_eq_right hE, Int.sub_self, signed_f]
    congr 1
    simp only [Int.toNat_zero, Nat.pow_zero, Nat.mul_one]
    rw [Int.compare_eq_gt]
    exact Int.ofNat_lt.2 hM
theorem order_eq {r : Nat} (h' : r ≤ 9218868437227405312) : double.order r r = some .eq := by
  unfold Format.order
  by_cases k : r = 9218868437227405312
  · subst k; rw [read_nn_inf]; rfl
  · rw [read_nn (r := r) (by omega)]
    simp [Datum.order]

/-- A finite number that is not 0 with all its 53 bits. -/
def nK (r : Nat) : Nat := if r < 4503599627370496 then 52 - r.log2 else 0
def nM (r : Nat) : Nat := rM r * 2 ^ nK r
def nE (r : Nat) : Int := rE r - nK r
theorem nM_bd {r : Nat} (h0 : r ≠ 0) (h : r < 9218868437227405312) : 4503599627370496 ≤ nM r ∧ nM r < 9007199254740992 := by
  unfold nM nK
  by_cases k : r < 4503599627370496
  · have e : rM r = r := by unfold rM; rw [if_pos k]
    rw [if_pos k, e]
    have hl := log2_lt52 (M := r) (by omega) h0
    have a1 : 2 ^ r.log2 ≤ r := Nat.log2_self_le h0
    have a2 : r < 2 ^ (r.log2 + 1) := Nat.lt_log2_self
    have e1 : 2 ^ r.log2 * 2 ^ (52 - r.log2) = 4503599627370496 := by rw [← Nat.pow_add, show r.log2 + (52 - r.log2) = 52 by omega]
    have e2 : 2 ^ (r.log2 + 1) * 2 ^ (52 - r.log2) = 9007199254740992 := by rw [← Nat.pow_add, show r.log2 + 1 + (52 - r.log2) = 53 by omega]
    have b1 := Nat.mul_le_mul_right (2 ^ (52 - r.log2)) a1
    have b2 := Nat.mul_lt_mul_of_pos_right a2 (pow_pos2 (52 - r.log2))
    rw [e1] at b1
    rw [e2] at b2
    exact ⟨b1, b2⟩
  · rw [if_neg k, Nat.pow_zero, Nat.mul_one]
    have c := rung_can h
    refine ⟨?_, c.lt⟩
    unfold rM
    rw [if_neg k]
    omega
theorem nE_bd {r : Nat} (h : r < 9218868437227405312) : -1126 ≤ nE r ∧ nE r ≤ 971 ∧ (4503599627370496 ≤ r → -1074 ≤ nE r) := by
  have c := rung_can h
  have := c.lo
  have := c.hi
  unfold nE nK
  by_cases k : r < 4503599627370496
  · rw [if_pos k]; exact ⟨by omega, by omega, by omega⟩
  · rw [if_neg k]; exact ⟨by omega, by omega, by omega⟩
theorem eqv_n (r : Nat) : Eqv (rM r) (rE r) (nM r) (nE r) := Or.inr ⟨nK r, rfl, rfl⟩

theorem mul_nn {x y : Nat} (hx : x < 9218868437227405312) (hy : y < 9218868437227405312) : double.mul x y = some (double.nearest false (rM x * rM y) (rE x + rE y)) := by
  unfold Format.mul
  rw [read_nn hx, read_nn hy]
  rfl
theorem pow_word (e : Int) (h : -1022 ≤ e ∧ e ≤ 1023) : rM ((e + 1023).toNat * 4503599627370496) = 4503599627370496 ∧ rE ((e + 1023).toNat * 4503599627370496) = e - 52 := by
  unfold rM rE
  have k : ¬ (e + 1023).toNat * 4503599627370496 < 4503599627370496 := by omega
  rw [if_neg k, if_neg k]
  constructor
  · rw [Nat.mul_mod_left]
  · rw [Nat.mul_div_cancel _ (by decide)]; omega
/-- A normal number in the format's own form, by its fields. -/
theorem norm_word (M : Nat) (E : Int) (h1 : 4503599627370496 ≤ M) (h2 : M < 9007199254740992) (lo : -1074 ≤ E) (hi : E ≤ 971) : (E + 1075).toNat * 4503599627370496 + (M - 4503599627370496) = rung M E := by
  unfold rung; omega
theorem up52 {r : Nat} (h0 : r ≠ 0) (h : r < 4503599627370496) : double.mul r 4841369599423283200 = some (rung (nM r) (nE r + 52)) := by
  obtain ⟨e1, e2⟩ := pow_word 52 (by omega)
  have e3 : ((52 : Int) + 1023).toNat * 4503599627370496 = 4841369599423283200 := by decide +kernel
  rw [e3] at e1 e2
  rw [mul_nn (by omega) (by decide), e1, e2]
  have hb := nM_bd h0 (by omega : r < 9218868437227405312)
  have hE := nE_bd (by omega : r < 9218868437227405312)
  have hr : rM r = r := by unfold rM; rw [if_pos h]
  have hr2 : rE r = -1074 := by unfold rE; rw [if_pos h]
  have hc : Can (nM r) (nE r + 52) := by
    have : nE r = -1074 - (52 - r.log2 : Nat) := by unfold nE nK; rw [if_pos h, hr2]
    exact ⟨hb.2, by omega, by omega, Or.inl hb.1⟩
  have hk : (nK r : Int) ≤ 52 := by unfold nK; rw [if_pos h]; omega
  have e52 : (4503599627370496 : Nat) = 2 ^ nK r * 2 ^ (52 - nK r) := by
    rw [← Nat.pow_add, show nK r + (52 - nK r) = 52 by omega]
  have hv : Eqv (rM r * 4503599627370496) (rE r + (52 - 52)) (nM r) (nE r + 52) := by
    refine Or.inl ⟨52 - nK r, ?_, ?_⟩
    · unfold nM
      rw [Nat.mul_assoc, ← e52]
    · have : nE r = rE r - nK r := rfl
      omega
  rw [nearest_can false hc (by omega) hv, word_f]
/-- Ldexp of a finite number without a sign: rounded once. -/
def ldW (r : Nat) (p : Int) : Nat := if r = 0 then 0 else if r = 9218868437227405312 then 9218868437227405312 else double.nearest false (rM r) (rE r + p)
end Go.Proofs.YtegcecpmdgljpaaGreatDoor

namespace Go.Proofs.YtegcecpmdgljpaaGreatDoor
open Ieee
set_option linter.unusedVariables false

def ofF (n : Int) : Nat := floatOfInt .f64 n
theorem ofF_is (n : Int) : ofF n = double.nearest (decide (n < 0)) n.natAbs 0 := rfl
theorem read_of (x : Int) (h : x.natAbs < 9007199254740992) : ∃ k : Nat, double.read (ofF x) = .number (decide (x < 0)) (x.natAbs * 2 ^ k) (-(k : Int)) ∧ x.natAbs * 2 ^ k < 9007199254740992 := by
  rw [ofF_is]
  by_cases h0 : x.natAbs = 0
  · have e : x = 0 := by omega
    subst e
    obtain ⟨k, hk⟩ : ∃ k : Nat, -(k : Int) = -1074 := ⟨1074, rfl⟩
    refine ⟨k, ?_⟩
    rw [hk]
    have hc : Can 0 (-1074) := ⟨by decide, by decide, by decide, Or.inr rfl⟩
    have := read_can false hc
    rw [show rung 0 (-1074) = 0 from rfl] at this
    have z : ∀ k : Nat, (0 : Int).natAbs * 2 ^ k = 0 := fun k => by rw [Int.natAbs_zero, Nat.zero_mul]
    rw [z, Int.natAbs_zero, nearest_zero]
    exact ⟨this, by decide⟩
  · obtain ⟨k, hk⟩ := can_of x.natAbs 0 h0 h (by decide) (by decide)
    refine ⟨k, ?_⟩
    have e : (0 : Int) - (k : Int) = -(k : Int) := by omega
    rw [e] at hk
    rw [nearest_can _ hk (Nat.mul_ne_zero h0 (pow_ne k)) (Or.inr ⟨k, rfl, by omega⟩), read_can _ hk]
    exact ⟨rfl, hk.lt⟩
theorem signed_of (x : Int) (k u : Nat) : signed (decide (x < 0)) (x.natAbs * 2 ^ k) u = x * 2 ^ (k + u) := by
  unfold signed
  rw [Nat.shiftLeft_eq, Nat.mul_assoc, ← Nat.pow_add]
  have c : ((x.natAbs * 2 ^ (k + u) : Nat) : Int) = (x.natAbs : Int) * 2 ^ (k + u) := by rw [Int.natCast_mul, Int.natCast_pow]; rfl
  rw [c]
  by_cases h : x < 0
  · rw [decide_eq_true h, if_pos rfl, show (x.natAbs : Int) = -x by omega, Int.neg_mul, Int.neg_neg]
  · rw [decide_eq_false h, if_neg (by decide), show (x.natAbs : Int) = x by omega]
theorem signed_of_neg (x : Int) (k u : Nat) : signed (!decide (x < 0)) (x.natAbs * 2 ^ k) u = -(x * 2 ^ (k + u)) := by
  rw [← signed_of x k u]
  unfold signed
  cases decide (x < 0) <;> simp
theorem pow_int_pos (k : Nat) : (0 : Int) < 2 ^ k := Int.pow_pos (by decide)
theorem scale_sign (x : Int) (k : Nat) : decide (x * 2 ^ k < 0) = decide (x < 0) := by
  have p := pow_int_pos k
  apply decide_eq_decide.2
  constructor
  · intro h
    apply Int.not_le.1
    intro hx
    exact Int.not_le.2 h (Int.mul_nonneg hx (Int.le_of_lt p))
  · intro h
    exact Int.mul_neg_of_neg_of_pos h p
theorem scale_abs (x : Int) (k : Nat) : (x * 2 ^ k).natAbs = x.natAbs * 2 ^ k := by
  rw [Int.natAbs_mul, Int.natAbs_pow]; rfl
theorem scale_zero (x : Int) (k : Nat) : x * 2 ^ k = 0 ↔ x = 0 := by
  have p := pow_int_pos k
  rw [Int.mul_eq_zero]
  constructor
  · rintro (h | h)
    · exact h
    · omega
  · exact Or.inl
/-- What is written of a whole number that is scaled. -/
theorem write_scaled (t : Int) (K : Nat) (z : Bool) (hz : t = 0 → z = false) :
    double.write (.number (if t * 2 ^ K = 0 then z else decide (t * 2 ^ K < 0)) (t * 2 ^ K).natAbs (-(K : Int))) = ofF t := by
  show double.nearest _ _ _ = _
  rw [ofF_is, scale_abs]
  by_cases h : t = 0
  · subst h
    rw [hz rfl]
    simp [nearest_zero]
  · rw [if_neg (fun q => h ((scale_zero t K).1 q)), scale_sign]
    have := nearest_shift (decide (t < 0)) t.natAbs K 0 (by omega)
    rw [show (0 : Int) - (K : Int) = -(K : Int) by omega] at this
    exact this
theorem base_neg (k j : Nat) : min (-(k : Int)) (-(j : Int)) = -((max k j : Nat) : Int) := by omega
theorem up_k (k j : Nat) : k + (-(k : Int) - -((max k j : Nat) : Int)).toNat = max k j := by omega
theorem up_j (k j : Nat) : j + (-(j : Int) - -((max k j : Nat) : Int)).toNat = max k j := by omega
theorem add_of (x y : Int) (hx : x.natAbs < 9007199254740992) (hy : y.natAbs < 9007199254740992) : double.add (ofF x) (ofF y) = some (ofF (x + y)) := by
  obtain ⟨k, rx, _⟩ := read_of x hx
  obtain ⟨j, ry, _⟩ := read_of y hy
  unfold Format.add
  rw [rx, ry]
  simp only [Datum.sum, Option.map_some]
  rw [base_neg, signed_of, signed_of, up_k, up_j, ← Int.add_mul]
  congr 1
  exact write_scaled (x + y) _ _ (by
    intro h
    by_cases a : x < 0
    · rw [decide_eq_false (show ¬ y < 0 by omega)]; simp
    · rw [decide_eq_false a]; rfl)
theorem sub_of (x y : Int) (hx : x.natAbs < 9007199254740992) (hy : y.natAbs < 9007199254740992) : double.sub (ofF x) (ofF y) = some (ofF (x - y)) := by
  obtain ⟨k, rx, _⟩ := read_of x hx
  obtain ⟨j, ry, _⟩ := read_of y hy
  unfold Format.sub
  rw [rx, ry]
  simp only [Datum.opposite, Datum.sum, Option.map_some]
  rw [base_neg, signed_of, signed_of_neg, up_k, up_j, ← Int.sub_eq_add_neg, ← Int.sub_mul]
  congr 1
  exact write_scaled (x - y) _ _ (by
    intro h
    have e : x = y := by omega
    subst e
    cases decide (x < 0) <;> rfl)
theorem mul_of (x y : Int) (hx : x.natAbs < 9007199254740992) (hy : y.natAbs < 9007199254740992) (h0 : x ≠ 0) (h1 : y ≠ 0) : double.mul (ofF x) (ofF y) = some (ofF (x * y)) := by
  obtain ⟨k, rx, _⟩ := read_of x hx
  obtain ⟨j, ry, _⟩ := read_of y hy
  unfold Format.mul
  rw [rx, ry]
  simp only [Datum.product, Option.map_some]
  congr 1
  show double.nearest _ _ _ = _
  rw [ofF_is, Int.natAbs_mul]
  have e : x.natAbs * 2 ^ k * (y.natAbs * 2 ^ j) = x.natAbs * y.natAbs * 2 ^ (k + j) := by
    rw [Nat.pow_add, Nat.mul_assoc, Nat.mul_left_comm (2 ^ k), ← Nat.mul_assoc]
  have s : (decide (x < 0) ^^ decide (y < 0)) = decide (x * y < 0) := by
    by_cases a : x < 0
    · by_cases b : y < 0
      · rw [decide_eq_true a, decide_eq_true b, decide_eq_false (Int.not_lt.2 (Int.le_of_lt (Int.mul_pos_of_neg_of_neg a b)))]; rfl
      · rw [decide_eq_true a, decide_eq_false b, decide_eq_true (Int.mul_neg_of_neg_of_pos a (by omega))]; rfl
    · by_cases b : y < 0
      · rw [decide_eq_false a, decide_eq_true b, decide_eq_true (Int.mul_neg_of_pos_of_neg (by omega) b)]; rfl
      · rw [decide_eq_false a, decide_eq_false b, decide_eq_false (Int.not_lt.2 (Int.mul_nonneg (by omega) (by omega)))]; rfl
  rw [e, s]
  have := nearest_shift (decide (x * y < 0)) (x.natAbs * y.natAbs) (k + j) 0 (Nat.mul_ne_zero (by omega) (by omega))
  rw [show (0 : Int) - ((k + j : Nat) : Int) = -(k : Int) + -(j : Int) by omega] at this
  exact this
theorem cmp_scale (x y : Int) (K : Nat) : compare (x * 2 ^ K) (y * 2 ^ K) = compare x y := by
  have p := pow_int_pos K
  rcases Int.lt_trichotomy x y with h | h | h
  · rw [Int.compare_eq_lt.2 h, Int.compare_eq_lt.2 (Int.mul_lt_mul_of_pos_right h p)]
  · subst h; simp
  · rw [Int.compare_eq_gt.2 h, Int.compare_eq_gt.2 (Int.mul_lt_mul_of_pos_right h p)]
theorem order_of (x y : Int) (hx : x.natAbs < 9007199254740992) (hy : y.natAbs < 9007199254740992) : double.order (ofF x) (ofF y) = some (compare x y) := by
  obtain ⟨k, rx, _⟩ := read_of x hx
  obtain ⟨j, ry, _⟩ := read_of y hy
  unfold Format.order
  rw [rx, ry]
  simp only [Datum.order]
  rw [base_neg, signed_of, signed_of, up_k, up_j, cmp_scale]
/-- Half of a whole number. -/
def halfF (x : Int) : Nat := double.nearest (decide (x < 0)) x.natAbs (-1)
theorem read_two : double.read (ofF 2) = .number false 4503599627370496 (-51) := by decide +kernel
theorem half_of (x : Int) (hx : x.natAbs < 9007199254740992) : double.div (ofF x) (ofF 2) = some (halfF x) := by
  obtain ⟨k, rx, hb⟩ := read_of x hx
  unfold Format.div
  rw [rx, read_two, d_frac]
  simp only [Datum.quotient]
  rw [if_neg (by decide), show (4503599627370496 : Nat).log2 = 52 by decide +kernel]
  simp only [Option.map_some, Bool.xor_false]
  congr 1
  show double.nearest _ _ _ = _
  unfold halfF
  by_cases h0 : x = 0
  · subst h0
    have z : ∀ k : Nat, (0 : Int).natAbs * 2 ^ k = 0 := fun k => by rw [Int.natAbs_zero, Nat.zero_mul]
    rw [z, Int.natAbs_zero, nearest_zero]
    simp [nearest_zero]
  · have hn : x.natAbs ≠ 0 := by omega
    have hm : x.natAbs * 2 ^ k ≠ 0 := Nat.mul_ne_zero hn (pow_ne k)
    have hl := log2_lt53 hb hm
    have e2 := nearest_shift (decide (x < 0)) x.natAbs k (-1) hn
    generalize x.natAbs * 2 ^ k = m at *
    obtain ⟨e, he⟩ : ∃ e, 52 + 2 + 52 - m.log2 = e + 52 := ⟨52 + 2 - m.log2, by omega⟩
    rw [he, Nat.shiftLeft_eq, Nat.pow_add, ← Nat.mul_assoc, show (2 : Nat) ^ 52 = 4503599627370496 by decide, Nat.mul_div_cancel _ (by decide), Nat.mul_mod_left]
    have e3 := nearest_shift (decide (x < 0)) m (e + 1) (-1 - k) hm
    rw [← e2, ← e3]
    congr 1
    · rw [Nat.pow_succ]
      simp
      rw [Nat.mul_comm 2, Nat.mul_assoc]
    · omega
theorem read_half (x : Int) (hx : x.natAbs < 9007199254740992) : ∃ k : Nat, double.read (halfF x) = .number (decide (x < 0)) (x.natAbs * 2 ^ k) (-1 - (k : Int)) ∧ x.natAbs * 2 ^ k < 9007199254740992 := by
  unfold halfF
  by_cases h0 : x.natAbs = 0
  · have e : x = 0 := by omega
    subst e
    obtain ⟨k, hk⟩ : ∃ k : Nat, -1 - (k : Int) = -1074 := ⟨1073, rfl⟩
    refine ⟨k, ?_⟩
    rw [hk]
    have hc : Can 0 (-1074) := ⟨by decide, by decide, by decide, Or.inr rfl⟩
    have := read_can false hc
    rw [show rung 0 (-1074) = 0 from rfl] at this
    have z : ∀ k : Nat, (0 : Int).natAbs * 2 ^ k = 0 := fun k => by rw [Int.natAbs_zero, Nat.zero_mul]
    rw [z, Int.natAbs_zero, nearest_zero]
    exact ⟨this, by decide⟩
  · obtain ⟨k, hk⟩ := can_of x.natAbs (-1) h0 hx (by decide) (by decide)
    refine ⟨k, ?_⟩
    rw [nearest_can _ hk (Nat.mul_ne_zero h0 (pow_ne k)) (Or.inr ⟨k, rfl, by omega⟩), read_can _ hk]
    exact ⟨rfl, hk.lt⟩
theorem twice_half (x : Int) (hx : x.natAbs < 9007199254740992) : double.add (halfF x) (halfF x) = some (ofF x) := by
  obtain ⟨k, rx, _⟩ := read_half x hx
  unfold Format.add
  rw [rx]
  simp only [Datum.sum, Option.map_some]
  rw [show min (-1 - (k : Int)) (-1 - (k : Int)) = -((k + 1 : Nat) : Int) by omega, show (-1 - (k : Int) - -((k + 1 : Nat) : Int)).toNat = 0 by omega, signed_of, Nat.add_zero]
  have e : x * 2 ^ k + x * 2 ^ k = x * 2 ^ (k + 1) := by rw [Int.pow_succ, ← Int.mul_assoc]; omega
  rw [e]
  congr 1
  exact write_scaled x (k + 1) _ (by intro h; subst h; rfl)
end Go.Proofs.YtegcecpmdgljpaaGreatDoor

namespace Go.Proofs.YtegcecpmdgljpaaGreatDoor
open Ieee
set_option linter.unusedVariables false

theorem cut_down (s : Bool) (n d : Nat) : Toward.zero.cut s n d = n / 2 ^ d := by
  unfold Toward.cut
  simp only [Nat.shiftLeft_eq, Nat.one_mul, Bool.toNat_false, Nat.add_zero]
  by_cases h : d ≤ n.log2 + 2
  · rw [Nat.min_eq_left h]
  · rw [Nat.min_eq_right (by omega)]
    have a : n < 2 ^ (n.log2 + 1) := Nat.lt_log2_self
    have b : 2 ^ (n.log2 + 1) ≤ 2 ^ (n.log2 + 2) := Nat.pow_le_pow_right (by decide) (by omega)
    have c : 2 ^ (n.log2 + 1) ≤ 2 ^ d := Nat.pow_le_pow_right (by decide) (by omega)
    rw [Nat.div_eq_of_lt (by omega), Nat.div_eq_of_lt (by omega)]
/-- A number without its sign, towards 0. -/
def tr (M : Nat) (E : Int) : Nat := (M * 2 ^ E.toNat) / 2 ^ (-E).toNat
theorem toint_tr (s : Bool) (M : Nat) (E : Int) : (Datum.number s M E).toInt .zero = some (if s then -(tr M E : Int) else (tr M E : Int)) := by
  unfold Datum.toInt Datum.integral
  simp only [cut_down, Nat.shiftLeft_eq]
  unfold signed
  rw [Nat.shiftLeft_zero]
  rfl
theorem tr_lt {M : Nat} {E : Int} (h : M < 9007199254740992) (hE : E < 11) : tr M E < 9223372036854775808 := by
  unfold tr
  refine Nat.lt_of_le_of_lt (Nat.div_le_self _ _) ?_
  have a : 2 ^ E.toNat ≤ 2 ^ 10 := Nat.pow_le_pow_right (by decide) (by omega)
  have b : (2 : Nat) ^ 10 = 1024 := by decide
  have c := Nat.mul_le_mul (Nat.le_of_lt_succ (Nat.lt_succ_of_lt h)) a
  have d : M * 2 ^ E.toNat ≤ 9007199254740991 * 1024 := Nat.mul_le_mul (by omega) (by omega)
  omega
theorem read_up : double.read 4890909195324358656 = .number false 4503599627370496 11 := by decide +kernel
theorem read_low : double.read 14114281232179134464 = .number true 4503599627370496 11 := by decide +kernel
theorem signed_t (m u : Nat) : signed true m u = -((m * 2 ^ u : Nat) : Int) := by unfold signed; rw [Nat.shiftLeft_eq]; simp
theorem pow_split53 (E : Int) (h : E < 11) : ∃ j, (11 - E).toNat = j + 1 := ⟨(11 - E).toNat - 1, by omega⟩
theorem below_11 {M : Nat} {E : Int} (h : M < 9007199254740992) (hE : E < 11) : M * 2 ^ (E - min E 11).toNat < 4503599627370496 * 2 ^ (11 - min E 11).toNat := by
  rw [Int.min_eq_left (by omega), Int.sub_self, Int.toNat_zero, Nat.pow_zero, Nat.mul_one]
  obtain ⟨j, hj⟩ := pow_split53 E hE
  rw [hj, Nat.pow_succ]
  have := Nat.two_pow_pos j
  have := Nat.mul_le_mul_left (4503599627370496 * 2) (show 1 ≤ 2 ^ j from this)
  rw [Nat.mul_comm (2 ^ j) 2, ← Nat.mul_assoc]
  omega
theorem above_11 {M : Nat} {E : Int} (h : 4503599627370496 ≤ M) (hE : 11 ≤ E) : M * 2 ^ (E - min E 11).toNat ≥ 4503599627370496 * 2 ^ (11 - min E 11).toNat := by
  rw [Int.min_eq_right hE, Int.sub_self, Int.toNat_zero, Nat.pow_zero, Nat.mul_one]
  have := Nat.two_pow_pos (E - 11).toNat
  exact Nat.le_trans h (Nat.le_mul_of_pos_right _ this)
/-- Below 2^63, and not below -2^63. -/
theorem flt_range (x : Nat) (s : Bool) (M : Nat) (E : Int) (hx : double.read x = .number s M E) (h : M < 9007199254740992) (hE : E < 11) :
    (double.order x 14114281232179134464 == some .gt || double.order x 14114281232179134464 == some .eq) = true ∧ (double.order x 4890909195324358656 == some .lt) = true := by
  have hb := below_11 h hE
  unfold Format.order
  rw [hx, read_up, read_low]
  simp only [Datum.order, signed_t, signed_f]
  have hX : signed s M (E - min E 11).toNat = if s then -((M * 2 ^ (E - min E 11).toNat : Nat) : Int) else ((M * 2 ^ (E - min E 11).toNat : Nat) : Int) := by
    cases s
    · rw [signed_f]; rfl
    · rw [signed_t]; rfl
  rw [hX]
  generalize M * 2 ^ (E - min E 11).toNat = A at *
  generalize 4503599627370496 * 2 ^ (11 - min E 11).toNat = B at *
  clear hX
  have c1 : compare (if s = true then -(A : Int) else (A : Int)) (-(B : Int)) = .gt := by
    rw [Int.compare_eq_gt]; cases s <;> simp <;> omega
  have c2 : compare (if s = true then -(A : Int) else (A : Int)) (B : Int) = .lt := by
    rw [Int.compare_eq_lt]; cases s <;> simp <;> omega
  rw [c1, c2]
  exact ⟨rfl, rfl⟩
/-- 2^63 and above. -/
theorem not_above (x : Nat) (M : Nat) (E : Int) (hx : double.read x = .number false M E) (h : 4503599627370496 ≤ M) (hE : 11 ≤ E) :
    (double.order x 4890909195324358656 == some .lt) = false := by
  have hb := above_11 h hE
  unfold Format.order
  rw [hx, read_up]
  simp only [Datum.order, signed_f]
  generalize M * 2 ^ (E - min E 11).toNat = A at *
  generalize 4503599627370496 * 2 ^ (11 - min E 11).toNat = B at *
  have c2 : compare (A : Int) (B : Int) ≠ .lt := by
    intro h; have := Int.compare_eq_lt.1 h; omega
  cases hc : compare (A : Int) (B : Int) with
  | lt => exact absurd hc c2
  | eq => rfl
  | gt => rfl
/-- -2^63 itself. -/
theorem is_low (x : Nat) (hx : double.read x = .number true 4503599627370496 11) :
    (double.order x 14114281232179134464 == some .gt || double.order x 14114281232179134464 == some .eq) = true ∧ (double.order x 4890909195324358656 == some .lt) = true := by
  unfold Format.order
  rw [hx, read_up, read_low]
  exact ⟨by decide +kernel, by decide +kernel⟩
/-- Below -2^63. -/
theorem not_low (x : Nat) (M : Nat) (E : Int) (hx : double.read x = .number true M E) (h : 4503599627370496 ≤ M) (hE : 11 ≤ E) (hne : ¬ (M = 4503599627370496 ∧ E = 11)) :
    (double.order x 14114281232179134464 == some .gt || double.order x 14114281232179134464 == some .eq) = false := by
  have hb : M * 2 ^ (E - min E 11).toNat > 4503599627370496 * 2 ^ (11 - min E 11).toNat := by
    rw [Int.min_eq_right hE, Int.sub_self, Int.toNat_zero, Nat.pow_zero, Nat.mul_one]
    by_cases e : E = 11
    · subst e; simp; omega
    · obtain ⟨j, hj⟩ : ∃ j, (E - 11).toNat = j + 1 := ⟨(E - 11).toNat - 1, by omega⟩
      rw [hj, Nat.pow_succ, Nat.mul_comm (2 ^ j) 2, ← Nat.mul_assoc]
      have := Nat.mul_le_mul_left (M * 2) (show 1 ≤ 2 ^ j from Nat.two_pow_pos j)
      omega
  unfold Format.order
  rw [hx, read_low]
  simp only [Datum.order, signed_t]
  generalize M * 2 ^ (E - min E 11).toNat = A at *
  generalize 4503599627370496 * 2 ^ (11 - min E 11).toNat = B at *
  have c2 : compare (-(A : Int)) (-(B : Int)) = .lt := Int.compare_eq_lt.2 (by omega)
  rw [c2]
  rfl
theorem inf_out (x : Nat) (s : Bool) (hx : double.read x = .infinity s) :
    (double.order x 14114281232179134464 == some .gt || double.order x 14114281232179134464 == some .eq) = false ∨ (double.order x 4890909195324358656 == some .lt) = false := by
  unfold Format.order
  rw [hx, read_up, read_low]
  cases s
  · exact Or.inr rfl
  · exact Or.inl rfl
theorem nan_out (x : Nat) (hx : (double.read x).isNaN = true) : (double.order x 4890909195324358656 == some .lt) = false := by
  unfold Format.order
  cases h : double.read x with
  | nan s t => rfl
  | number s m e => rw [h] at hx; cases hx
  | infinity s => rw [h] at hx; cases hx
theorem val_of_read (x : Nat) (s : Bool) (M : Nat) (E : Int) (hx : double.read x = .number s M E) (n : Int) (hn : (if s then -(tr M E : Int) else (tr M E : Int)) = n) (hb : -9223372036854775808 ≤ n ∧ n ≤ 9223372036854775807) : floatToIntVal .f64 x .i64 = some n := by
  have hd : FloatKind.f64.decode x = .number s M E := hx
  unfold floatToIntVal
  rw [hd, toint_tr, hn]
  have a : IntKind.i64.min = -9223372036854775808 := by decide +kernel
  have b : IntKind.i64.max = 9223372036854775807 := by decide +kernel
  simp only [a, b]
  rw [if_pos hb]
end Go.Proofs.YtegcecpmdgljpaaGreatDoor

namespace Go.Proofs.YtegcecpmdgljpaaGreatDoor
open Ieee
set_option linter.unusedVariables false

/-- Rounding to even: at most half a unit off. -/
theorem cut_even_bd (s : Bool) (n d : Nat) (hd : d ≤ n.log2 + 2) : 2 * n ≤ 2 * (Toward.even.cut s n d * 2 ^ d) + 2 ^ d ∧ 2 * (Toward.even.cut s n d * 2 ^ d) ≤ 2 * n + 2 ^ d := by
  unfold Toward.cut
  rw [Nat.min_eq_left hd]
  simp only [Nat.shiftLeft_eq, Nat.one_mul]
  have h0 := Nat.two_pow_pos d
  have e := Nat.div_add_mod n (2 ^ d)
  have hm := Nat.mod_lt n h0
  generalize 2 ^ d = g at *
  generalize n / g = q at *
  generalize n % g = r at *
  have e1 : q * g = g * q := Nat.mul_comm _ _
  by_cases c1 : g < 2 * r
  · rw [decide_eq_true c1]
    simp only [Bool.true_or, Bool.toNat_true]
    rw [Nat.add_mul, Nat.one_mul, e1]
    omega
  · rw [decide_eq_false c1]
    by_cases c2 : (g == 2 * r && q % 2 == 1) = true
    · simp only [Bool.false_or, c2, Bool.toNat_true]
      rw [Nat.add_mul, Nat.one_mul, e1]
      have : g = 2 * r := by
        have := (Bool.and_eq_true _ _).mp c2
        exact beq_iff_eq.1 this.1
      omega
    · rw [Bool.not_eq_true] at c2
      simp only [Bool.false_or, c2, Bool.toNat_false, Nat.add_zero]
      rw [e1]
      omega
theorem cut_even_top (s : Bool) (n d : Nat) (hd : d ≤ n.log2 + 2) (k : Nat) (h1 : k * 2 ^ d ≤ n) (h2 : n < 2 * k * 2 ^ d) : k ≤ Toward.even.cut s n d ∧ Toward.even.cut s n d ≤ 2 * k := by
  unfold Toward.cut
  rw [Nat.min_eq_left hd]
  simp only [Nat.shiftLeft_eq, Nat.one_mul]
  have h0 := Nat.two_pow_pos d
  have a : k ≤ n / 2 ^ d := (Nat.le_div_iff_mul_le h0).2 h1
  have b : n / 2 ^ d < 2 * k := (Nat.div_lt_iff_lt_mul h0).2 h2
  generalize n / 2 ^ d = q at *
  generalize (decide (2 ^ d < 2 * (n % 2 ^ d)) || 2 ^ d == 2 * (n % 2 ^ d) && q % 2 == 1) = t
  cases t <;> simp <;> omega
/-- A whole number from 2^53 to 2^63, rounded. -/
theorem big_of (s : Bool) (n : Nat) (h1 : 9007199254740992 ≤ n) (h2 : n ≤ 9223372036854775808) : ∃ (M : Nat) (E : Int), double.read (double.nearest s n 0) = .number s M E ∧ 4503599627370496 ≤ M ∧ M < 9007199254740992 ∧ 0 ≤ E ∧ E ≤ 11 ∧
    n ≤ M * 2 ^ E.toNat + 512 ∧ M * 2 ^ E.toNat ≤ n + 512 ∧ M * 2 ^ E.toNat ≤ 9223372036854775808 ∧ (11 ≤ E → M = 4503599627370496) := by
  have h0 : n ≠ 0 := by omega
  have l1 : 53 ≤ n.log2 := (Nat.le_log2 h0).2 (by omega)
  have l2 : n.log2 < 64 := (Nat.log2_lt h0).2 (by omega)
  obtain ⟨L, hL⟩ : ∃ L, n.log2 = L + 52 := ⟨n.log2 - 52, by omega⟩
  have p1 : 2 ^ n.log2 ≤ n := Nat.log2_self_le h0
  have p2 : n < 2 ^ (n.log2 + 1) := Nat.lt_log2_self
  have q1 : 4503599627370496 * 2 ^ L ≤ n := by
    rw [hL, Nat.pow_add, Nat.mul_comm] at p1
    exact p1
  have q2 : n < 2 * 4503599627370496 * 2 ^ L := by
    rw [hL, show L + 52 + 1 = 53 + L by omega, Nat.pow_add] at p2
    exact p2
  have hd : L ≤ n.log2 + 2 := by omega
  obtain ⟨t1, t2⟩ := cut_even_top s n L hd _ q1 q2
  obtain ⟨b1, b2⟩ := cut_even_bd s n L hd
  have hnear : double.nearest s n 0 = double.word s (min ((L + 1074) * 4503599627370496 + Toward.even.cut s n L) 9218868437227405312) := by
    unfold Format.nearest
    rw [if_neg h0, d_frac, d_least, d_binade, d_inf, hL]
    have e : max ((0 : Int) + ((L + 52 : Nat) : Int) - ((52 : Nat) : Int)) (-1074) = (L : Int) := by omega
    simp only [e]
    have a1 : ((0 : Int) - (L : Int)).toNat = 0 := by omega
    have a2 : ((L : Int) - 0).toNat = L := by omega
    have a3 : ((L : Int) - -1074).toNat = L + 1074 := by omega
    rw [a1, a2, a3, Nat.shiftLeft_zero]
  have hx : L = 11 → Toward.even.cut s n L = 4503599627370496 := by
    intro h
    subst h
    have en : n = 4503599627370496 * 2 ^ 11 := by
      have : (2 : Nat) ^ 11 = 2048 := by decide
      rw [this] at q1 ⊢
      omega
    rw [en]
    exact cut_pow _ _ _ _ (by decide)
  generalize Toward.even.cut s n L = K at *
  have hp : 2 ^ L ≤ 1024 ∨ L = 11 := by
    by_cases c : L = 11
    · exact Or.inr c
    · left
      exact Nat.le_trans (Nat.pow_le_pow_right (by decide) (show L ≤ 10 by omega)) (by decide)
  rw [hnear, Nat.min_eq_left (by omega)]
  by_cases c : K < 9007199254740992
  · have hc : Can K (L : Int) := ⟨c, by omega, by omega, Or.inl t1⟩
    have hr := read_can s hc
    have er : rung K (L : Int) = (L + 1074) * 4503599627370496 + K := by
      unfold rung
      rw [show ((L : Int) + 1074).toNat = L + 1074 by omega]
    rw [er] at hr
    refine ⟨K, (L : Int), hr, t1, c, by omega, by omega, ?_, ?_, ?_, ?_⟩
    all_goals try rw [Int.toNat_natCast]
    · rcases hp with hp | hp
      · omega
      · rw [hx hp]; subst hp
        have : (2 : Nat) ^ 11 = 2048 := by decide
        rw [this]; omega
    · rcases hp with hp | hp
      · omega
      · rw [hx hp]; subst hp
        have : (2 : Nat) ^ 11 = 2048 := by decide
        rw [this]; omega
    · rcases hp with hp | hp
      · have hL10 : 2 ^ L ≤ 2 ^ 10 := hp
        have := Nat.mul_le_mul (Nat.le_of_lt_succ (Nat.lt_succ_of_lt c)) hL10
        have a : (2 : Nat) ^ 10 = 1024 := by decide
        have : K * 2 ^ L ≤ 9007199254740991 * 1024 := Nat.mul_le_mul (by omega) hp
        omega
      · rw [hx hp]; subst hp; decide
    · intro h; exact hx (by omega)
  · have eK : K = 9007199254740992 := by omega
    have hL10 : L ≠ 11 := by
      intro h
      have := hx h
      omega
    have hp2 : 2 ^ L ≤ 1024 := by
      rcases hp with hp | hp
      · exact hp
      · exact absurd hp hL10
    have hc : Can 4503599627370496 ((L : Int) + 1) := ⟨by decide, by omega, by omega, Or.inl (by decide)⟩
    have hr := read_can s hc
    have er : rung 4503599627370496 ((L : Int) + 1) = (L + 1074) * 4503599627370496 + K := by
      unfold rung
      rw [show ((L : Int) + 1 + 1074).toNat = L + 1074 + 1 by omega, eK]
      omega
    rw [er] at hr
    have e2 : 4503599627370496 * 2 ^ ((L : Int) + 1).toNat = K * 2 ^ L := by
      rw [show ((L : Int) + 1).toNat = L + 1 by omega, eK, Nat.pow_succ, Nat.mul_comm (2 ^ L) 2, ← Nat.mul_assoc]
    refine ⟨4503599627370496, (L : Int) + 1, hr, by decide, by decide, by omega, by omega, ?_, ?_, ?_, fun _ => rfl⟩
    all_goals try rw [e2]
    · omega
    · omega
    · rw [eK]
      have := Nat.mul_le_mul_left 9007199254740992 hp2
      omega
end Go.Proofs.YtegcecpmdgljpaaGreatDoor

namespace Go.Proofs.YtegcecpmdgljpaaGreatDoor
open Ieee
set_option linter.unusedVariables false

theorem and_low (x : Nat) : x &&& 9223372036854775807 = x % 9223372036854775808 := Nat.and_two_pow_sub_one_eq_mod x 63
theorem and_frac (x : Nat) : x &&& 4503599627370495 = x % 4503599627370496 := Nat.and_two_pow_sub_one_eq_mod x 52
theorem and_2047 (x : Nat) : x &&& 2047 = x % 2048 := Nat.and_two_pow_sub_one_eq_mod x 11
theorem bit63_word (s : Bool) (r : Nat) (h : r < 9223372036854775808) : (double.word s r).testBit 63 = s := by
  rw [Nat.testBit_eq_decide_div_mod_eq, word_d]
  cases s
  · simp; omega
  · simp; omega
theorem and_sign (s : Bool) (r : Nat) (h : r < 9223372036854775808) : double.word s r &&& 9223372036854775808 = double.word s 0 := by
  have e := Go.nat_bit 63 (double.word s r)
  have e2 : (2 : Nat) ^ 63 = 9223372036854775808 := by decide
  rw [e2] at e
  rw [e, word_d, word_d]
  cases s
  · simp; omega
  · simp; omega
theorem or_sign (r : Nat) (h : r < 9223372036854775808) : 9223372036854775808 ||| r = 9223372036854775808 + r := by
  have e := Nat.two_pow_add_eq_or_of_lt (i := 63) (b := r) (by omega) 1
  simpa using e.symm
theorem or_exp (e f : Nat) (h : f < 4503599627370496) : f ||| e * 4503599627370496 = e * 4503599627370496 + f := by
  have k := Nat.two_pow_add_eq_or_of_lt (i := 52) (b := f) (by omega) e
  rw [Nat.or_comm, Nat.mul_comm]
  have e2 : (2 : Nat) ^ 52 = 4503599627370496 := by decide
  rw [e2] at k
  exact k.symm
theorem clear_exp (s : Bool) (r : Nat) (h : r < 9223372036854775808) : double.word s r &&& 9227875636482146303 = double.word s (r % 4503599627370496) := by
  have e : (9227875636482146303 : Nat) = 9223372036854775808 ||| 4503599627370495 := by decide +kernel
  rw [e, Nat.and_or_distrib_left, and_sign s r h, and_frac]
  have k : double.word s r % 4503599627370496 = r % 4503599627370496 := by rw [word_d]; cases s <;> simp <;> omega
  rw [k]
  cases s
  · rw [word_d, word_d]; simp
  · have hb : r % 4503599627370496 < 4503599627370496 := Nat.mod_lt _ (by decide)
    rw [word_d, word_d]
    simp only [if_true, Nat.add_zero]
    exact or_sign _ (by omega)
theorem set_exp (s : Bool) (f e : Nat) (h : f < 4503599627370496) (he : e < 2048) : double.word s f ||| e * 4503599627370496 = double.word s (e * 4503599627370496 + f) := by
  cases s
  · rw [word_d, word_d]; simp only [Bool.false_eq_true, if_false, Nat.zero_add]; exact or_exp e f h
  · rw [word_d, word_d]
    simp only [if_true]
    rw [← or_sign f (by omega), Nat.or_assoc, or_exp e f h]
    exact or_sign _ (by omega)
theorem get_exp (s : Bool) (r : Nat) (h : r < 9223372036854775808) : (double.word s r / 4503599627370496) % 2048 = r / 4503599627370496 := by
  rw [word_d]; cases s <;> simp <;> omega
theorem xor_sign (s : Bool) (r : Nat) (h : r < 9223372036854775808) : double.word s r ^^^ 9223372036854775808 = double.word (!s) r := by
  have e2 : (2 : Nat) ^ 63 = 9223372036854775808 := by decide
  cases s
  · have : double.word false r ^^^ 9223372036854775808 = double.word false r ||| 9223372036854775808 := by
      apply Nat.eq_of_testBit_eq
      intro i
      rw [Nat.testBit_xor, Nat.testBit_or, ← e2, Nat.testBit_two_pow]
      by_cases k : 63 = i
      · subst k; rw [bit63_word false r h]; simp
      · simp [k]
    rw [this, Nat.or_comm, word_d, word_d]
    simp only [Bool.false_eq_true, if_false, Nat.zero_add, Bool.not_false, if_true]
    exact or_sign r h
  · have : double.word true r = double.word false r ^^^ 9223372036854775808 := by
      have k : double.word false r ^^^ 9223372036854775808 = double.word false r ||| 9223372036854775808 := by
        apply Nat.eq_of_testBit_eq
        intro i
        rw [Nat.testBit_xor, Nat.testBit_or, ← e2, Nat.testBit_two_pow]
        by_cases k : 63 = i
        · subst k; rw [bit63_word false r h]; simp
        · simp [k]
      rw [k, Nat.or_comm, word_d, word_d]
      simp only [Bool.false_eq_true, if_false, Nat.zero_add, if_true]
      exact (or_sign r h).symm
    rw [this, Nat.xor_assoc, Nat.xor_self, Nat.xor_zero]
    rfl
end Go.Proofs.YtegcecpmdgljpaaGreatDoor

namespace Go.Proofs.YtegcecpmdgljpaaGreatDoor
open Ieee
set_option linter.unusedVariables false

/-- A float without its sign. -/
def absW (x : Nat) : Nat := x % 9223372036854775808
theorem absW_lt (x : Nat) : absW x < 9223372036854775808 := Nat.mod_lt _ (by decide)
theorem absW_word (s : Bool) {r : Nat} (h : r < 9223372036854775808) : absW (double.word s r) = r := by
  unfold absW; rw [word_d]; cases s <;> simp <;> omega
theorem nearest_sign (s : Bool) (m : Nat) (p : Int) : double.nearest s m p = double.word s (double.nearest false m p) := by
  unfold Format.nearest
  by_cases h : m = 0
  · rw [if_pos h, if_pos h, word_f]
  · rw [if_neg h, if_neg h]
    have e : ∀ n d, Toward.even.cut s n d = Toward.even.cut false n d := fun n d => rfl
    simp only [e, word_f]
theorem nearest_le (m : Nat) (p : Int) : double.nearest false m p ≤ 9218868437227405312 := by
  unfold Format.nearest
  rw [d_inf]
  by_cases h : m = 0
  · rw [if_pos h, word_f]; decide
  · rw [if_neg h]
    simp only [word_f]
    exact Nat.min_le_right _ _
theorem absW_nearest (s : Bool) (m : Nat) (p : Int) : absW (double.nearest s m p) = double.nearest false m p := by
  rw [nearest_sign]
  exact absW_word s (Nat.lt_of_le_of_lt (nearest_le m p) (by decide))
/-- What is below 1 is below the float 1. -/
theorem below_one (m : Nat) (p : Int) (h : m < 9007199254740992) (lo : -1074 ≤ p) (hi : p < 0) (hv : m < 2 ^ (-p).toNat) : (double.order (double.nearest false m p) 4607182418800017408 == some .lt) = true := by
  by_cases h0 : m = 0
  · subst h0
    rw [nearest_zero, word_f, order_lt (by decide) (by decide)]; rfl
  · obtain ⟨j, hc⟩ := can_of m p h0 h lo (by omega)
    rw [nearest_can false hc (Nat.mul_ne_zero h0 (pow_ne j)) (Or.inr ⟨j, rfl, rfl⟩), word_f]
    have hb : m * 2 ^ j < 2 ^ (-(p - (j : Int))).toNat := by
      rw [show (-(p - (j : Int))).toNat = (-p).toNat + j by omega, Nat.pow_add]
      exact Nat.mul_lt_mul_of_pos_right hv (Nat.two_pow_pos j)
    have hr : rung (m * 2 ^ j) (p - j) < 4607182418800017408 := by
      obtain ⟨c1, c2, c3, c4⟩ := hc
      generalize m * 2 ^ j = M at *
      generalize p - (j : Int) = E at *
      unfold rung
      rcases c4 with c4 | c4
      · have : E ≤ -53 := by
          apply Int.not_lt.1
          intro k
          have : 2 ^ (-E).toNat ≤ 2 ^ 52 := Nat.pow_le_pow_right (by decide) (by omega)
          have a : (2 : Nat) ^ 52 = 4503599627370496 := by decide
          omega
        have e : (E + 1074).toNat ≤ 1021 := by omega
        have := Nat.mul_le_mul_right 4503599627370496 e
        omega
      · have e : (E + 1074).toNat = 0 := by omega
        rw [e]; omega
    rw [order_lt hr (by decide)]
    rfl
theorem neg_of (s : Bool) (t : Nat) (h : t ≠ 0) : decide ((if s then -(t : Int) else (t : Int)) < 0) = s := by
  cases s
  · apply decide_eq_false; simp
  · apply decide_eq_true; simp; omega
theorem abs_of (s : Bool) (t : Nat) : (if s then -(t : Int) else (t : Int)).natAbs = t := by cases s <;> simp
/-- Its whole part is that of a number with no part behind the point. -/
theorem whole_same (s : Bool) (M : Nat) (E : Int) (hc : Can M E) (h : 0 ≤ E) : ofF (if s then -(tr M E : Int) else (tr M E : Int)) = double.word s (rung M E) := by
  have hM : M ≠ 0 := by
    rcases hc.top with k | k
    · omega
    · omega
  have e : tr M E = M * 2 ^ E.toNat := by unfold tr; rw [show (-E).toNat = 0 by omega, Nat.pow_zero, Nat.div_one]
  have ht : tr M E ≠ 0 := by rw [e]; exact Nat.mul_ne_zero hM (pow_ne _)
  rw [ofF_is, neg_of s _ ht, abs_of, e]
  exact nearest_can s hc hM (Or.inl ⟨E.toNat, rfl, by omega⟩)
theorem tr_small {M : Nat} {E : Int} (h : M < 9007199254740992) (hE : E < 0) : tr M E = M / 2 ^ (-E).toNat := by
  unfold tr; rw [show E.toNat = 0 by omega, Nat.pow_zero, Nat.mul_one]
/-- A number is not below its whole part, without their signs. -/
theorem not_below (s : Bool) (M : Nat) (E : Int) (hc : Can M E) : (double.order (rung M E) (absW (ofF (if s then -(tr M E : Int) else (tr M E : Int)))) == some .lt) = false := by
  by_cases h : 0 ≤ E
  · rw [whole_same s M E hc h, absW_word s (Nat.lt_trans (rung_lt hc) (by decide)), order_eq (Nat.le_of_lt (rung_lt hc))]
    rfl
  · have ht : tr M E = M / 2 ^ (-E).toNat := tr_small hc.lt (by omega)
    have hb : tr M E < 9007199254740992 := by rw [ht]; exact Nat.lt_of_le_of_lt (Nat.div_le_self _ _) hc.lt
    rw [ofF_is, absW_nearest, abs_of]
    obtain ⟨k, rk, _⟩ := read_of (tr M E : Int) (by simpa using hb)
    rw [ofF_is] at rk
    rw [show decide ((tr M E : Int) < 0) = false by apply decide_eq_false; omega, show (tr M E : Int).natAbs = tr M E from rfl] at rk
    have rr : double.read (rung M E) = .number false M E := by
      have := read_can false hc
      rwa [word_f] at this
    unfold Format.order
    rw [rk, rr]
    simp only [Datum.order, signed_f]
    have hle : tr M E * 2 ^ k * 2 ^ (-(k : Int) - min E (-(k : Int))).toNat ≤ M * 2 ^ (E - min E (-(k : Int))).toNat := by
      have e1 : tr M E * 2 ^ (-E).toNat ≤ M := by rw [ht]; exact Nat.div_mul_le_self _ _
      obtain ⟨K, hK⟩ : ∃ K : Nat, min E (-(k : Int)) = -(K : Int) := ⟨(-(min E (-(k : Int)))).toNat, by omega⟩
      rw [hK]
      have e2 : k + (-(k : Int) - -(K : Int)).toNat = (-E).toNat + (E - -(K : Int)).toNat := by omega
      rw [Nat.mul_assoc, ← Nat.pow_add, e2, Nat.pow_add, ← Nat.mul_assoc]
      exact Nat.mul_le_mul_right _ e1
    generalize tr M E * 2 ^ k * 2 ^ (-(k : Int) - min E (-(k : Int))).toNat = A at *
    generalize M * 2 ^ (E - min E (-(k : Int))).toNat = B at *
    cases hq : compare (B : Int) (A : Int) with
    | lt => exact absurd (Int.compare_eq_lt.1 hq) (by omega)
    | eq => rfl
    | gt => rfl
theorem signed_abs (s : Bool) (n : Nat) : (signed s n 0).natAbs = n := by
  unfold signed; rw [Nat.shiftLeft_zero]; cases s <;> simp
/-- What is left of a number less its whole part. -/
theorem rest_one (s : Bool) (M : Nat) (E : Int) (hc : Can M E) : ∃ (sg : Bool) (m : Nat) (p : Int), double.sub (double.word s (rung M E)) (ofF (if s then -(tr M E : Int) else (tr M E : Int))) = some (double.nearest sg m p) ∧
    (double.order (absW (double.nearest sg m p)) 4607182418800017408 == some .lt) = true := by
  by_cases h : 0 ≤ E
  · rw [whole_same s M E hc h]
    refine ⟨false, 0, E, ?_, ?_⟩
    · unfold Format.sub
      rw [read_can s hc]
      simp only [Datum.opposite, Datum.sum, Option.map_some, Int.min_self, Int.sub_self, Int.toNat_zero]
      have e : signed s M 0 + signed (!s) M 0 = 0 := by unfold signed; cases s <;> simp <;> omega
      rw [e]
      cases s <;> rfl
    · rw [absW_nearest, nearest_zero, word_f, order_lt (by decide) (by decide)]; rfl
  · have ht : tr M E = M / 2 ^ (-E).toNat := tr_small hc.lt (by omega)
    have hb : tr M E < 9007199254740992 := by rw [ht]; exact Nat.lt_of_le_of_lt (Nat.div_le_self _ _) hc.lt
    obtain ⟨k, rk, _⟩ := read_of (if s then -(tr M E : Int) else (tr M E : Int)) (by rw [abs_of]; exact hb)
    rw [abs_of] at rk
    obtain ⟨K, hK⟩ : ∃ K : Nat, min E (-(k : Int)) = -(K : Int) := ⟨(-(min E (-(k : Int)))).toNat, by omega⟩
    have hdm := Nat.div_add_mod M (2 ^ (-E).toNat)
    rw [← ht] at hdm
    have hmod : M % 2 ^ (-E).toNat < 2 ^ (-E).toNat := Nat.mod_lt _ (Nat.two_pow_pos _)
    have hml : M % 2 ^ (-E).toNat ≤ M := Nat.mod_le _ _
    generalize hR : M % 2 ^ (-E).toNat = R at *
    have tot : signed s M (E - -(K : Int)).toNat + signed (!decide ((if s then -(tr M E : Int) else (tr M E : Int)) < 0)) (tr M E * 2 ^ k) (-(k : Int) - -(K : Int)).toNat = signed s (R * 2 ^ (E - -(K : Int)).toNat) 0 := by
      have e2 : k + (-(k : Int) - -(K : Int)).toNat = (-E).toNat + (E - -(K : Int)).toNat := by omega
      have e3 : tr M E * 2 ^ k * 2 ^ (-(k : Int) - -(K : Int)).toNat = 2 ^ (-E).toNat * tr M E * 2 ^ (E - -(K : Int)).toNat := by
        rw [Nat.mul_assoc, ← Nat.pow_add, e2, Nat.pow_add, ← Nat.mul_assoc, Nat.mul_comm (tr M E)]
      have e4 : M * 2 ^ (E - -(K : Int)).toNat = 2 ^ (-E).toNat * tr M E * 2 ^ (E - -(K : Int)).toNat + R * 2 ^ (E - -(K : Int)).toNat := by
        rw [← Nat.add_mul, hdm]
      by_cases t0 : tr M E = 0
      · rw [t0] at e4 ⊢
        rw [Nat.mul_zero, Nat.zero_mul, Nat.zero_add] at e4
        unfold signed
        simp only [Nat.shiftLeft_eq, Nat.zero_mul, Nat.pow_zero, Nat.mul_one]
        rw [e4]
        cases s <;> simp
      · rw [neg_of s _ t0]
        unfold signed
        simp only [Nat.shiftLeft_eq, Nat.pow_zero, Nat.mul_one]
        rw [e3, e4]
        generalize 2 ^ (-E).toNat * tr M E * 2 ^ (E - -(K : Int)).toNat = A
        generalize R * 2 ^ (E - -(K : Int)).toNat = B
        cases s <;> simp <;> omega
    unfold Format.sub
    rw [read_can s hc, rk]
    simp only [Datum.opposite, Datum.sum, Option.map_some]
    rw [hK, tot]
    refine ⟨_, _, _, rfl, ?_⟩
    rw [absW_nearest]
    rw [signed_abs]
    have en : double.nearest false (R * 2 ^ (E - -(K : Int)).toNat) (-(K : Int)) = double.nearest false R E := by
      by_cases r0 : R = 0
      · rw [r0, Nat.zero_mul, nearest_zero, nearest_zero]
      · have := nearest_shift false R (E - -(K : Int)).toNat E r0
        rw [show E - ((E - -(K : Int)).toNat : Int) = -(K : Int) by omega] at this
        exact this
    rw [en]
    exact below_one R E (Nat.lt_of_le_of_lt hml hc.lt) hc.lo (by omega) hmod
end Go.Proofs.YtegcecpmdgljpaaGreatDoor
