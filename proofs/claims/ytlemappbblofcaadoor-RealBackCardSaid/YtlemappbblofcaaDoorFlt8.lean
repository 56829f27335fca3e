/- Binary64: a whole number times a power of two is told by going there and back just if the format has it. No condition. -/
import Derived.Test.YtlemappbblofcaaDoorFlt4
namespace Go.Proofs.YtlemappbblofcaaDoor
open Ieee
set_option linter.unusedVariables false

theorem eqv_symm {m : Nat} {p : Int} {M : Nat} {E : Int} (h : Eqv m p M E) : Eqv M E m p := by
  rcases h with ⟨k, a, b⟩ | ⟨k, a, b⟩
  · exact Or.inr ⟨k, a, b⟩
  · exact Or.inl ⟨k, a, b⟩
theorem pow_cut {k j : Nat} (h : k ≤ j) : (2 : Nat) ^ j = 2 ^ (j - k) * 2 ^ k := by rw [← Nat.pow_add, Nat.sub_add_cancel h]
theorem eqv_trans {m : Nat} {p : Int} {M : Nat} {E : Int} {n : Nat} {q : Int} (h : Eqv m p M E) (g : Eqv M E n q) : Eqv m p n q := by
  rcases h with ⟨k, a, b⟩ | ⟨k, a, b⟩
  · rcases g with ⟨j, c, d⟩ | ⟨j, c, d⟩
    · exact Or.inl ⟨j + k, by rw [a, c, Nat.pow_add, Nat.mul_assoc], by omega⟩
    · by_cases hk : k ≤ j
      · refine Or.inr ⟨j - k, ?_, by omega⟩
        rw [a, c, pow_cut hk, Nat.mul_assoc, Nat.mul_comm (2 ^ k)]
      · refine Or.inl ⟨k - j, ?_, by omega⟩
        rw [a, c, pow_cut (show j ≤ k by omega), Nat.mul_assoc, Nat.mul_comm (2 ^ j)]
  · rcases g with ⟨j, c, d⟩ | ⟨j, c, d⟩
    · by_cases hk : k ≤ j
      · refine Or.inl ⟨j - k, ?_, by omega⟩
        rw [a, pow_cut hk, ← Nat.mul_assoc] at c
        exact Nat.eq_of_mul_eq_mul_right (pow_pos2 k) c
      · refine Or.inr ⟨k - j, ?_, by omega⟩
        rw [a, pow_cut (show j ≤ k by omega), ← Nat.mul_assoc] at c
        exact (Nat.eq_of_mul_eq_mul_right (pow_pos2 j) c).symm
    · exact Or.inr ⟨k + j, by rw [c, a, Nat.pow_add, Nat.mul_assoc], by omega⟩
theorem eqv_move {m : Nat} {p : Int} {M : Nat} {E : Int} (c : Int) (h : Eqv m p M E) : Eqv m (p + c) M (E + c) := by
  rcases h with ⟨k, a, b⟩ | ⟨k, a, b⟩
  · exact Or.inl ⟨k, a, by omega⟩
  · exact Or.inr ⟨k, a, by omega⟩
theorem eqv_zero {m : Nat} {p : Int} {M : Nat} {E : Int} (h : Eqv m p M E) (h0 : m ≠ 0) : M ≠ 0 := by
  rintro rfl
  rcases h with ⟨k, a, b⟩ | ⟨k, a, b⟩
  · exact h0 (by rw [a]; simp)
  · rcases Nat.mul_eq_zero.1 a.symm with c | c
    · exact h0 c
    · exact absurd c (pow_ne k)
/-- The format's own form is one. -/
theorem can_same {M : Nat} {E : Int} {N : Nat} {F : Int} (h : Can M E) (g : Can N F) (h0 : M ≠ 0) (e : Eqv M E N F) : M = N ∧ E = F := by
  have a := nearest_can false h h0 (eqv_refl M E)
  have b := nearest_can false g (eqv_zero e h0) e
  rw [a, word_f, word_f] at b
  have c := rM_rung h
  have d := rE_rung h
  rw [b, rM_rung g] at c
  rw [b, rE_rung g] at d
  exact ⟨c.symm, d.symm⟩
theorem of_parts (m : Nat) (h0 : m ≠ 0) (h : m ≤ 9007199254740992) : ∃ M E, Can M E ∧ Eqv m 0 M E ∧ ofF (m : Int) = rung M E := by
  by_cases c : m = 9007199254740992
  · subst c
    have hc : Can 4503599627370496 1 := ⟨by decide, by decide, by decide, Or.inl (by decide)⟩
    exact ⟨_, _, hc, Or.inl ⟨1, by decide, by decide⟩, by decide +kernel⟩
  · obtain ⟨k, hk⟩ := can_of m 0 h0 (by omega) (by decide) (by decide)
    have e : Eqv m 0 (m * 2 ^ k) (0 - k) := Or.inr ⟨k, rfl, rfl⟩
    refine ⟨_, _, hk, e, ?_⟩
    rw [ofF_is, show decide ((m : Int) < 0) = false by apply decide_eq_false; omega, show (m : Int).natAbs = m from rfl, nearest_can false hk (eqv_zero e h0) e, word_f]
theorem ldW_can {M : Nat} {E : Int} (h : Can M E) (h0 : M ≠ 0) (p : Int) : ldW (rung M E) p = double.nearest false M (E + p) := by
  have hr := rung_lt h
  have hz : rung M E ≠ 0 := by unfold rung; omega
  unfold ldW
  rw [if_neg hz, if_neg (by omega), rM_rung h, rE_rung h]
/-- A whole number, scaled: rounded once. -/
theorem ld_of (m : Nat) (h0 : m ≠ 0) (h : m ≤ 9007199254740992) (p : Int) : ldW (ofF (m : Int)) p = double.nearest false m p := by
  obtain ⟨M, E, hc, e, ho⟩ := of_parts m h0 h
  have hM := eqv_zero e h0
  rw [ho, ldW_can hc hM]
  have e2 := eqv_symm (eqv_move p e)
  rw [Int.zero_add] at e2
  exact nearest_eqv false h0 e2
/-- There and back, where the format has the number. -/
theorem ld_exact (m : Nat) (h0 : m ≠ 0) (h : m ≤ 9007199254740992) (p : Int) {M : Nat} {E : Int} (hc : Can M E) (e : Eqv m p M E) : ldW (ofF (m : Int)) p = rung M E ∧ ldW (rung M E) (-p) = ofF (m : Int) := by
  have hM := eqv_zero e h0
  refine ⟨?_, ?_⟩
  · rw [ld_of m h0 h p, nearest_can false hc hM e, word_f]
  · obtain ⟨N, F, hd, f, ho⟩ := of_parts m h0 h
    rw [ldW_can hc hM, ho]
    have e2 := eqv_move (-p) (eqv_symm e)
    rw [show p + -p = 0 by omega] at e2
    rw [nearest_can false hd (eqv_zero f h0) (eqv_trans e2 f), word_f]
/-- How far the place of what was rounded lies from that of the number. -/
theorem place_near (m : Nat) (h0 : m ≠ 0) (h : m ≤ 9007199254740992) (p : Int) (hz : double.nearest false m p ≠ 0) (hi : double.nearest false m p ≠ 9218868437227405312) :
    -52 ≤ rE (double.nearest false m p) - p ∧ rE (double.nearest false m p) - p ≤ 60 := by
  have hl : m.log2 < 54 := (Nat.log2_lt h0).2 (by omega)
  unfold Format.nearest at hz hi ⊢
  rw [if_neg h0, d_frac, d_least, d_binade, d_inf] at hz hi ⊢
  simp only [word_f] at hz hi ⊢
  obtain ⟨last, hlast⟩ : ∃ last, last = max (p + ((m.log2 : Nat) : Int) - ((52 : Nat) : Int)) (-1074) := ⟨_, rfl⟩
  rw [← hlast] at hz hi ⊢
  have hlo : -1074 ≤ last := by omega
  have hcut : Toward.even.cut false (m <<< (p - last).toNat) (last - p).toNat ≤ 9007199254740992 ∧ (last = -1074 ∨ 4503599627370496 ≤ Toward.even.cut false (m <<< (p - last).toNat) (last - p).toNat) ∧ (Toward.even.cut false (m <<< (p - last).toNat) (last - p).toNat ≠ 0 → last - p ≤ 56) := by
    have p1 : 2 ^ m.log2 ≤ m := Nat.log2_self_le h0
    have p2 : m < 2 ^ (m.log2 + 1) := Nat.lt_log2_self
    by_cases c : last ≤ p
    · have e0 : (last - p).toNat = 0 := by omega
      rw [e0, cut_zero, Nat.shiftLeft_eq]
      have q2 := Nat.mul_lt_mul_of_pos_right p2 (pow_pos2 (p - last).toNat)
      have q1 := Nat.mul_le_mul_right (2 ^ (p - last).toNat) p1
      rw [← Nat.pow_add] at q1 q2
      have a53 : (2 : Nat) ^ 53 = 9007199254740992 := by decide
      have a52 : (2 : Nat) ^ 52 = 4503599627370496 := by decide
      refine ⟨?_, ?_, fun _ => by omega⟩
      · have : 2 ^ (m.log2 + 1 + (p - last).toNat) ≤ 2 ^ 53 := Nat.pow_le_pow_right (by decide) (by omega)
        omega
      · by_cases l : last = -1074
        · exact Or.inl l
        · right
          have : 2 ^ 52 ≤ 2 ^ (m.log2 + (p - last).toNat) := Nat.pow_le_pow_right (by decide) (by omega)
          omega
    · have e0 : (p - last).toNat = 0 := by omega
      rw [e0, Nat.shiftLeft_zero]
      obtain ⟨d, hd⟩ : ∃ d : Nat, (last - p).toNat = d := ⟨_, rfl⟩
      rw [hd]
      by_cases cd : d ≤ m.log2 + 2
      · have hb : Toward.even.cut false m d ≤ m / 2 ^ d + 1 := by
          unfold Toward.cut
          rw [Nat.min_eq_left cd]
          simp only [Nat.shiftLeft_eq, Nat.one_mul]
          generalize (decide (2 ^ d < 2 * (m % 2 ^ d)) || 2 ^ d == 2 * (m % 2 ^ d) && m / 2 ^ d % 2 == 1) = t
          cases t <;> simp
        have hg : m / 2 ^ d ≤ Toward.even.cut false m d := by
          unfold Toward.cut
          rw [Nat.min_eq_left cd]
          simp only [Nat.shiftLeft_eq, Nat.one_mul]
          exact Nat.le_add_right _ _
        have d1 : 1 ≤ d := by omega
        have hdd : m / 2 ^ d ≤ m / 2 ^ 1 := Nat.div_le_div_left (Nat.pow_le_pow_right (by decide) d1) (by decide)
        have hd1 : m / 2 ^ 1 = m / 2 := rfl
        refine ⟨by omega, ?_, fun _ => by omega⟩
        by_cases l : last = -1074
        · exact Or.inl l
        · right
          have ed : d + 52 = m.log2 := by omega
          have a52 : (2 : Nat) ^ 52 = 4503599627370496 := by decide
          have : 4503599627370496 ≤ m / 2 ^ d := by
            rw [Nat.le_div_iff_mul_le (pow_pos2 d), ← a52, ← Nat.pow_add, Nat.add_comm, ed]
            exact p1
          omega
      · have e1 : Toward.even.cut false m d = 0 := by
          unfold Toward.cut
          rw [Nat.min_eq_right (by omega)]
          simp only [Nat.shiftLeft_eq, Nat.one_mul]
          have b3 : 2 ^ (m.log2 + 2) = 2 * 2 ^ (m.log2 + 1) := by rw [Nat.pow_succ]; omega
          have b4 : m < 2 ^ (m.log2 + 2) := by omega
          rw [Nat.div_eq_of_lt b4, Nat.mod_eq_of_lt b4, decide_eq_false (by omega), show (2 ^ (m.log2 + 2) == 2 * m) = false from beq_eq_false_iff_ne.2 (by omega)]
          rfl
        rw [e1]
        refine ⟨by decide, Or.inl (by omega), fun q => absurd rfl q⟩
  obtain ⟨k1, k2, k3⟩ := hcut
  generalize Toward.even.cut false (m <<< (p - last).toNat) (last - p).toNat = K at *
  have hm : min ((last - -1074).toNat * 4503599627370496 + K) 9218868437227405312 = (last - -1074).toNat * 4503599627370496 + K := by
    rcases Nat.le_total ((last - -1074).toNat * 4503599627370496 + K) 9218868437227405312 with q | q
    · exact Nat.min_eq_left q
    · exact absurd (Nat.min_eq_right q) hi
  rw [hm] at hz hi ⊢
  have hrE : rE ((last - -1074).toNat * 4503599627370496 + K) = last ∨ rE ((last - -1074).toNat * 4503599627370496 + K) = last + 1 := by
    unfold rE
    rcases k2 with k2 | k2
    · subst k2
      have e : ((-1074 : Int) - -1074).toNat = 0 := by decide
      rw [e, Nat.zero_mul, Nat.zero_add]
      by_cases c : K < 4503599627370496
      · rw [if_pos c]; exact Or.inl rfl
      · rw [if_neg c]
        by_cases c2 : K = 9007199254740992
        · subst c2; right; decide
        · left; omega
    · have c : ¬ (last - -1074).toNat * 4503599627370496 + K < 4503599627370496 := by omega
      rw [if_neg c]
      by_cases c2 : K = 9007199254740992
      · subst c2; right; omega
      · left; omega
  have hK : K ≠ 0 ∨ last ≠ -1074 := by
    rcases k2 with k2 | k2
    · left
      rintro rfl
      subst k2
      exact hz (by decide)
    · left; omega
  have hup : last - p ≤ 56 := by
    rcases hK with q | q
    · exact k3 q
    · omega
  rcases hrE with q | q <;> rw [q] <;> omega
/-- There and back tells that the format has the number. -/
theorem ld_back (m : Nat) (h0 : m ≠ 0) (h : m ≤ 9007199254740992) (p : Int) (hq : (double.order (ldW (double.nearest false m p) (-p)) (ofF (m : Int)) == some .eq) = true) (hle : double.nearest false m p ≤ 9218868437227405312) :
    ∃ M E, Can M E ∧ Eqv m p M E ∧ double.nearest false m p = rung M E := by
  obtain ⟨N, F, hd, f, ho⟩ := of_parts m h0 h
  have hN := eqv_zero f h0
  have hoz : rung N F ≠ 0 := by unfold rung; omega
  have hol := rung_lt hd
  rw [ho] at hq
  have hz : double.nearest false m p ≠ 0 := by
    intro q
    rw [q] at hq
    unfold ldW at hq
    rw [if_pos rfl, order_lt (by omega) (by omega)] at hq
    cases hq
  have hi : double.nearest false m p ≠ 9218868437227405312 := by
    intro q
    rw [q] at hq
    unfold ldW at hq
    rw [if_neg (by decide), if_pos rfl, order_gt (by omega) (by decide)] at hq
    cases hq
  obtain ⟨b1, b2⟩ := place_near m h0 h p hz hi
  have hy : double.nearest false m p < 9218868437227405312 := by omega
  have hc := rung_can hy
  have hb := rung_back hy
  generalize double.nearest false m p = y at *
  have hM : rM y ≠ 0 := by
    intro q
    have : rE y = -1074 := by
      rcases hc.top with k | k
      · omega
      · exact k
    unfold rung at hb
    rw [q, this] at hb
    exact hz (by rw [← hb]; decide)
  have e1 : ldW y (-p) = double.nearest false (rM y) (rE y + -p) := by
    unfold ldW; rw [if_neg hz, if_neg hi]
  rw [e1] at hq
  obtain ⟨j, hk⟩ := can_of (rM y) (rE y + -p) hM hc.lt (by omega) (by omega)
  have ej : Eqv (rM y) (rE y + -p) (rM y * 2 ^ j) (rE y + -p - j) := Or.inr ⟨j, rfl, rfl⟩
  rw [nearest_can false hk (eqv_zero ej hM) ej, word_f] at hq
  have hl2 := rung_lt hk
  have hr : rung (rM y * 2 ^ j) (rE y + -p - j) = rung N F := by
    rcases Nat.lt_trichotomy (rung (rM y * 2 ^ j) (rE y + -p - j)) (rung N F) with q | q | q
    · rw [order_lt q (by omega)] at hq; cases hq
    · exact q
    · rw [order_gt q (by omega)] at hq; cases hq
  have c1 := rM_rung hk
  have c2 := rE_rung hk
  rw [hr, rM_rung hd] at c1
  rw [hr, rE_rung hd] at c2
  rw [← c1, ← c2] at ej
  refine ⟨rM y, rE y, hc, ?_, hb.symm⟩
  have e3 := eqv_move p (eqv_trans f (eqv_symm ej))
  rw [show rE y + -p + p = rE y by omega, Int.zero_add] at e3
  exact e3
end Go.Proofs.YtlemappbblofcaaDoor
