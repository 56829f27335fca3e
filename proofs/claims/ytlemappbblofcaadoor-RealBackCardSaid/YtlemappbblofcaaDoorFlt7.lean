/- Binary64: a number less its whole part is below 1, without its sign. No condition. -/
import Derived.Test.YtlemappbblofcaaDoorFlt6
import Derived.Test.YtlemappbblofcaaDoorFltBits
namespace Go.Proofs.YtlemappbblofcaaDoor
open Ieee
set_option linter.unusedVariables false

/-- A float without its sign. -/
def absW (x : Nat) : Nat := x % 9223372036854775808
theorem absW_lt (x : Nat) : absW x < 9223372036854775808 := Nat.mod_lt _ (by decide)
theorem absW_word (s : Bool) {r : Nat} (h : r < 9223372036854775808) : absW (double.word s r) = r := by
  unfold absW; rw [word_d]; cases s <;> simp <;> omega
theorem nearest_sign (s : Bool) (m : Nat) (p : Int) : double.nearest s m p = double.word s (double.nearest false m p) := by
  unfold Format.nearest
  by_cases h : m = 0
  · rw [if_pos h, if_pos h, word_f]
  · rw [if_neg h, if_neg h]
    have e : ∀ n d, Toward.even.cut s n d = Toward.even.cut false n d := fun n d => rfl
    simp only [e, word_f]
theorem nearest_le (m : Nat) (p : Int) : double.nearest false m p ≤ 9218868437227405312 := by
  unfold Format.nearest
  rw [d_inf]
  by_cases h : m = 0
  · rw [if_pos h, word_f]; decide
  · rw [if_neg h]
    simp only [word_f]
    exact Nat.min_le_right _ _
theorem absW_nearest (s : Bool) (m : Nat) (p : Int) : absW (double.nearest s m p) = double.nearest false m p := by
  rw [nearest_sign]
  exact absW_word s (Nat.lt_of_le_of_lt (nearest_le m p) (by decide))
/-- What is below 1 is below the float 1. -/
theorem below_one (m : Nat) (p : Int) (h : m < 9007199254740992) (lo : -1074 ≤ p) (hi : p < 0) (hv : m < 2 ^ (-p).toNat) : (double.order (double.nearest false m p) 4607182418800017408 == some .lt) = true := by
  by_cases h0 : m = 0
  · subst h0
    rw [nearest_zero, word_f, order_lt (by decide) (by decide)]; rfl
  · obtain ⟨j, hc⟩ := can_of m p h0 h lo (by omega)
    rw [nearest_can false hc (Nat.mul_ne_zero h0 (pow_ne j)) (Or.inr ⟨j, rfl, rfl⟩), word_f]
    have hb : m * 2 ^ j < 2 ^ (-(p - (j : Int))).toNat := by
      rw [show (-(p - (j : Int))).toNat = (-p).toNat + j by omega, Nat.pow_add]
      exact Nat.mul_lt_mul_of_pos_right hv (Nat.two_pow_pos j)
    have hr : rung (m * 2 ^ j) (p - j) < 4607182418800017408 := by
      obtain ⟨c1, c2, c3, c4⟩ := hc
      generalize m * 2 ^ j = M at *
      generalize p - (j : Int) = E at *
      unfold rung
      rcases c4 with c4 | c4
      · have : E ≤ -53 := by
          apply Int.not_lt.1
          intro k
          have : 2 ^ (-E).toNat ≤ 2 ^ 52 := Nat.pow_le_pow_right (by decide) (by omega)
          have a : (2 : Nat) ^ 52 = 4503599627370496 := by decide
          omega
        have e : (E + 1074).toNat ≤ 1021 := by omega
        have := Nat.mul_le_mul_right 4503599627370496 e
        omega
      · have e : (E + 1074).toNat = 0 := by omega
        rw [e]; omega
    rw [order_lt hr (by decide)]
    rfl
theorem neg_of (s : Bool) (t : Nat) (h : t ≠ 0) : decide ((if s then -(t : Int) else (t : Int)) < 0) = s := by
  cases s
  · apply decide_eq_false; simp
  · apply decide_eq_true; simp; omega
theorem abs_of (s : Bool) (t : Nat) : (if s then -(t : Int) else (t : Int)).natAbs = t := by cases s <;> simp
/-- Its whole part is that of a number with no part behind the point. -/
theorem whole_same (s : Bool) (M : Nat) (E : Int) (hc : Can M E) (h : 0 ≤ E) : ofF (if s then -(tr M E : Int) else (tr M E : Int)) = double.word s (rung M E) := by
  have hM : M ≠ 0 := by
    rcases hc.top with k | k
    · omega
    · omega
  have e : tr M E = M * 2 ^ E.toNat := by unfold tr; rw [show (-E).toNat = 0 by omega, Nat.pow_zero, Nat.div_one]
  have ht : tr M E ≠ 0 := by rw [e]; exact Nat.mul_ne_zero hM (pow_ne _)
  rw [ofF_is, neg_of s _ ht, abs_of, e]
  exact nearest_can s hc hM (Or.inl ⟨E.toNat, rfl, by omega⟩)
theorem tr_small {M : Nat} {E : Int} (h : M < 9007199254740992) (hE : E < 0) : tr M E = M / 2 ^ (-E).toNat := by
  unfold tr; rw [show E.toNat = 0 by omega, Nat.pow_zero, Nat.mul_one]
/-- A number is not below its whole part, without their signs. -/
theorem not_below (s : Bool) (M : Nat) (E : Int) (hc : Can M E) : (double.order (rung M E) (absW (ofF (if s then -(tr M E : Int) else (tr M E : Int)))) == some .lt) = false := by
  by_cases h : 0 ≤ E
  · rw [whole_same s M E hc h, absW_word s (Nat.lt_trans (rung_lt hc) (by decide)), order_eq (Nat.le_of_lt (rung_lt hc))]
    rfl
  · have ht : tr M E = M / 2 ^ (-E).toNat := tr_small hc.lt (by omega)
    have hb : tr M E < 9007199254740992 := by rw [ht]; exact Nat.lt_of_le_of_lt (Nat.div_le_self _ _) hc.lt
    rw [ofF_is, absW_nearest, abs_of]
    obtain ⟨k, rk, _⟩ := read_of (tr M E : Int) (by simpa using hb)
    rw [ofF_is] at rk
    rw [show decide ((tr M E : Int) < 0) = false by apply decide_eq_false; omega, show (tr M E : Int).natAbs = tr M E from rfl] at rk
    have rr : double.read (rung M E) = .number false M E := by
      have := read_can false hc
      rwa [word_f] at this
    unfold Format.order
    rw [rk, rr]
    simp only [Datum.order, signed_f]
    have hle : tr M E * 2 ^ k * 2 ^ (-(k : Int) - min E (-(k : Int))).toNat ≤ M * 2 ^ (E - min E (-(k : Int))).toNat := by
      have e1 : tr M E * 2 ^ (-E).toNat ≤ M := by rw [ht]; exact Nat.div_mul_le_self _ _
      obtain ⟨K, hK⟩ : ∃ K : Nat, min E (-(k : Int)) = -(K : Int) := ⟨(-(min E (-(k : Int)))).toNat, by omega⟩
      rw [hK]
      have e2 : k + (-(k : Int) - -(K : Int)).toNat = (-E).toNat + (E - -(K : Int)).toNat := by omega
      rw [Nat.mul_assoc, ← Nat.pow_add, e2, Nat.pow_add, ← Nat.mul_assoc]
      exact Nat.mul_le_mul_right _ e1
    generalize tr M E * 2 ^ k * 2 ^ (-(k : Int) - min E (-(k : Int))).toNat = A at *
    generalize M * 2 ^ (E - min E (-(k : Int))).toNat = B at *
    cases hq : compare (B : Int) (A : Int) with
    | lt => exact absurd (Int.compare_eq_lt.1 hq) (by omega)
    | eq => rfl
    | gt => rfl
theorem signed_abs (s : Bool) (n : Nat) : (signed s n 0).natAbs = n := by
  unfold signed; rw [Nat.shiftLeft_zero]; cases s <;> simp
/-- What is left of a number less its whole part. -/
theorem rest_one (s : Bool) (M : Nat) (E : Int) (hc : Can M E) : ∃ (sg : Bool) (m : Nat) (p : Int), double.sub (double.word s (rung M E)) (ofF (if s then -(tr M E : Int) else (tr M E : Int))) = some (double.nearest sg m p) ∧
    (double.order (absW (double.nearest sg m p)) 4607182418800017408 == some .lt) = true := by
  by_cases h : 0 ≤ E
  · rw [whole_same s M E hc h]
    refine ⟨false, 0, E, ?_, ?_⟩
    · unfold Format.sub
      rw [read_can s hc]
      simp only [Datum.opposite, Datum.sum, Option.map_some, Int.min_self, Int.sub_self, Int.toNat_zero]
      have e : signed s M 0 + signed (!s) M 0 = 0 := by unfold signed; cases s <;> simp <;> omega
      rw [e]
      cases s <;> rfl
    · rw [absW_nearest, nearest_zero, word_f, order_lt (by decide) (by decide)]; rfl
  · have ht : tr M E = M / 2 ^ (-E).toNat := tr_small hc.lt (by omega)
    have hb : tr M E < 9007199254740992 := by rw [ht]; exact Nat.lt_of_le_of_lt (Nat.div_le_self _ _) hc.lt
    obtain ⟨k, rk, _⟩ := read_of (if s then -(tr M E : Int) else (tr M E : Int)) (by rw [abs_of]; exact hb)
    rw [abs_of] at rk
    obtain ⟨K, hK⟩ : ∃ K : Nat, min E (-(k : Int)) = -(K : Int) := ⟨(-(min E (-(k : Int)))).toNat, by omega⟩
    have hdm := Nat.div_add_mod M (2 ^ (-E).toNat)
    rw [← ht] at hdm
    have hmod : M % 2 ^ (-E).toNat < 2 ^ (-E).toNat := Nat.mod_lt _ (Nat.two_pow_pos _)
    have hml : M % 2 ^ (-E).toNat ≤ M := Nat.mod_le _ _
    generalize hR : M % 2 ^ (-E).toNat = R at *
    have tot : signed s M (E - -(K : Int)).toNat + signed (!decide ((if s then -(tr M E : Int) else (tr M E : Int)) < 0)) (tr M E * 2 ^ k) (-(k : Int) - -(K : Int)).toNat = signed s (R * 2 ^ (E - -(K : Int)).toNat) 0 := by
      have e2 : k + (-(k : Int) - -(K : Int)).toNat = (-E).toNat + (E - -(K : Int)).toNat := by omega
      have e3 : tr M E * 2 ^ k * 2 ^ (-(k : Int) - -(K : Int)).toNat = 2 ^ (-E).toNat * tr M E * 2 ^ (E - -(K : Int)).toNat := by
        rw [Nat.mul_assoc, ← Nat.pow_add, e2, Nat.pow_add, ← Nat.mul_assoc, Nat.mul_comm (tr M E)]
      have e4 : M * 2 ^ (E - -(K : Int)).toNat = 2 ^ (-E).toNat * tr M E * 2 ^ (E - -(K : Int)).toNat + R * 2 ^ (E - -(K : Int)).toNat := by
        rw [← Nat.add_mul, hdm]
      by_cases t0 : tr M E = 0
      · rw [t0] at e4 ⊢
        rw [Nat.mul_zero, Nat.zero_mul, Nat.zero_add] at e4
        unfold signed
        simp only [Nat.shiftLeft_eq, Nat.zero_mul, Nat.pow_zero, Nat.mul_one]
        rw [e4]
        cases s <;> simp
      · rw [neg_of s _ t0]
        unfold signed
        simp only [Nat.shiftLeft_eq, Nat.pow_zero, Nat.mul_one]
        rw [e3, e4]
        generalize 2 ^ (-E).toNat * tr M E * 2 ^ (E - -(K : Int)).toNat = A
        generalize R * 2 ^ (E - -(K : Int)).toNat = B
        cases s <;> simp <;> omega
    unfold Format.sub
    rw [read_can s hc, rk]
    simp only [Datum.opposite, Datum.sum, Option.map_some]
    rw [hK, tot]
    refine ⟨_, _, _, rfl, ?_⟩
    rw [absW_nearest]
    rw [signed_abs]
    have en : double.nearest false (R * 2 ^ (E - -(K : Int)).toNat) (-(K : Int)) = double.nearest false R E := by
      by_cases r0 : R = 0
      · rw [r0, Nat.zero_mul, nearest_zero, nearest_zero]
      · have := nearest_shift false R (E - -(K : Int)).toNat E r0
        rw [show E - ((E - -(K : Int)).toNat : Int) = -(K : Int) by omega] at this
        exact this
    rw [en]
    exact below_one R E (Nat.lt_of_le_of_lt hml hc.lt) hc.lo (by omega) hmod
end Go.Proofs.YtlemappbblofcaaDoor
