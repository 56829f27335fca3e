/- Binary64: a whole number times a power of two is told by going there and back just if the format has it. No condition. The document's way of cutting a number down, step by step, as a plain function; where the format has the number, nothing is lost. No condition. The document's answers for layer 4: signs, what a cell is. Condition: cells are integers of 64 bits. The document's answers for layer 4: a number cut down. Condition: the place is of at most five digits. The document's answers for layer 4: a number rounded. Condition: a whole number of at most 53 bits, and a place of at most four digits. The document's answers for layer 4: what a cell is, by its sign and rung; a block of four cells. Condition: cells are integers of 64 bits. -/
import Derived.Test.YtegcecpmdgljpaaGreatDoorMGF
import Derived.Test.YtegcecpmdgljpaaGreatDoorMGH
import Derived.Test.YtegcecpmdgljpaaGreatDoorMGC
import Derived.Deep.DeepCutAuto
namespace Go.Proofs.YtegcecpmdgljpaaGreatDoor
open Ieee
set_option linter.unusedVariables false

theorem eqv_symm {m : Nat} {p : Int} {M : Nat} {E : Int} (h : Eqv m p M E) : Eqv M E m p := by
  rcases h with ⟨k, a, b⟩ | ⟨k, a, b⟩
  · exact Or.inr ⟨k, a, b⟩
  · exact Or.inl ⟨k, a, b⟩
theorem pow_cut {k j : Nat} (h : k ≤ j) : (2 : Nat) ^ j = 2 ^ (j - k) * 2 ^ k := by rw [← Nat.pow_add, Nat.sub_add_cancel h]
theorem eqv_trans {m : Nat} {p : Int} {M : Nat} {E : Int} {n : Nat} {q : Int} (h : Eqv m p M E) (g : Eqv M E n q) : Eqv m p n q := by
  rcases h with ⟨k, a, b⟩ | ⟨k, a, b⟩
  · rcases g with ⟨j, c, d⟩ | ⟨j, c, d⟩
    · exact Or.inl ⟨j + k, by rw [a, c, Nat.pow_add, Nat.mul_assoc], by omega⟩
    · by_cases hk : k ≤ j
      · refine Or.inr ⟨j - k, ?_, by omega⟩
        rw [a, c, pow_cut hk, Nat.mul_assoc, Nat.mul_comm (2 ^ k)]
      · refine Or.inl ⟨k - j, ?_, by omega⟩
        rw [a, c, pow_cut (show j ≤ k by omega), Nat.mul_assoc, Nat.mul_comm (2 ^ j)]
  · rcases g with ⟨j, c, d⟩ | ⟨j, c, d⟩
    · by_cases hk : k ≤ j
      · refine Or.inl ⟨j - k, ?_, by omega⟩
        rw [a, pow_cut hk, ← Nat.mul_assoc] at c
        exact Nat.eq_of_mul_eq_mul_right (pow_pos2 k) c
      · refine Or.inr ⟨k - j, ?_, by omega⟩
        rw [a, pow_cut (show j ≤ k by omega), ← Nat.mul_assoc] at c
        exact (Nat.eq_of_mul_eq_mul_right (pow_pos2 j) c).symm
    · exact Or.inr ⟨k + j, by rw [c, a, Nat.pow_add, Nat.mul_assoc], by omega⟩
theorem eqv_move {m : Nat} {p : Int} {M : Nat} {E : Int} (c : Int) (h : Eqv m p M E) : Eqv m (p + c) M (E + c) := by
  rcases h with ⟨k, a, b⟩ | ⟨k, a, b⟩
  · exact Or.inl ⟨k, a, by omega⟩
  · exact Or.inr ⟨k, a, by omega⟩
theorem eqv_zero {m : Nat} {p : Int} {M : Nat} {E : Int} (h : Eqv m p M E) (h0 : m ≠ 0) : M ≠ 0 := by
  rintro rfl
  rcases h with ⟨k, a, b⟩ | ⟨k, a, b⟩
  · exact h0 (by rw [a]; simp)
  · rcases Nat.mul_eq_zero.1 a.symm with c | c
    · exact h0 c
    · exact absurd c (pow_ne k)
/-- The format's own form is one. -/
theorem can_same {M : Nat} {E : Int} {N : Nat} {F : Int} (h : Can M E) (g : Can N F) (h0 : M ≠ 0) (e : Eqv M E N F) : M = N ∧ E = F := by
  have a := nearest_can false h h0 (eqv_refl M E)
  have b := nearest_can false g (eqv_zero e h0) e
  rw [a, word_f, word_f] at b
  have c := rM_rung h
  have d := rE_rung h
  rw [b, rM_rung g] at c
  rw [b, rE_rung g] at d
  exact ⟨c.symm, d.symm⟩
theorem of_parts (m : Nat) (h0 : m ≠ 0) (h : m ≤ 9007199254740992) : ∃ M E, Can M E ∧ Eqv m 0 M E ∧ ofF (m : Int) = rung M E := by
  by_cases c : m = 9007199254740992
  · subst c
    have hc : Can 4503599627370496 1 := ⟨by decide, by decide, by decide, Or.inl (by decide)⟩
    exact ⟨_, _, hc, Or.inl ⟨1, by decide, by decide⟩, by decide +kernel⟩
  · obtain ⟨k, hk⟩ := can_of m 0 h0 (by omega) (by decide) (by decide)
    have e : Eqv m 0 (m * 2 ^ k) (0 - k) := Or.inr ⟨k, rfl, rfl⟩
    refine ⟨_, _, hk, e, ?_⟩
    rw [ofF_is, show decide ((m : Int) < 0) = false by apply decide_eq_false; omega, show (m : Int).natAbs = m from rfl, nearest_can false hk (eqv_zero e h0) e, word_f]
theorem ldW_can {M : Nat} {E : Int} (h : Can M E) (h0 : M ≠ 0) (p : Int) : ldW (rung M E) p = double.nearest false M (E + p) := by
  have hr := rung_lt h
  have hz : rung M E ≠ 0 := by unfold rung; omega
  unfold ldW
  rw [if_neg hz, if_neg (by omega), rM_rung h, rE_rung h]
/-- A whole number, scaled: rounded once. -/
theorem ld_of (m : Nat) (h0 : m ≠ 0) (h : m ≤ 9007199254740992) (p : Int) : ldW (ofF (m : Int)) p = double.nearest false m p := by
  obtain ⟨M, E, hc, e, ho⟩ := of_parts m h0 h
  have hM := eqv_zero e h0
  rw [ho, ldW_can hc hM]
  have e2 := eqv_symm (eqv_move p e)
  rw [Int.zero_add] at e2
  exact nearest_eqv false h0 e2
/-- There and back, where the format has the number. -/
theorem ld_exact (m : Nat) (h0 : m ≠ 0) (h : m ≤ 9007199254740992) (p : Int) {M : Nat} {E : Int} (hc : Can M E) (e : Eqv m p M E) : ldW (ofF (m : Int)) p = rung M E ∧ ldW (rung M E) (-p) = ofF (m : Int) := by
  have hM := eqv_zero e h0
  refine ⟨?_, ?_⟩
  · rw [ld_of m h0 h p, nearest_can false hc hM e, word_f]
  · obtain ⟨N, F, hd, f, ho⟩ := of_parts m h0 h
    rw [ldW_can hc hM, ho]
    have e2 := eqv_move (-p) (eqv_symm e)
    rw [show p + -p = 0 by omega] at e2
    rw [nearest_can false hd (eqv_zero f h0) (eqv_trans e2 f), word_f]
/-- How far the place of what was rounded lies from that of the number. -/
theorem place_near (m : Nat) (h0 : m ≠ 0) (h : m ≤ 9007199254740992) (p : Int) (hz : double.nearest false m p ≠ 0) (hi : double.nearest false m p ≠ 9218868437227405312) :
    -52 ≤ rE (double.nearest false m p) - p ∧ rE (double.nearest false m p) - p ≤ 60 := by
  have hl : m.log2 < 54 := (Nat.log2_lt h0).2 (by omega)
  unfold Format.nearest at hz hi ⊢
  rw [if_neg h0, d_frac, d_least, d_binade, d_inf] at hz hi ⊢
  simp only [word_f] at hz hi ⊢
  obtain ⟨last, hlast⟩ : ∃ last, last = max (p + ((m.log2 : Nat) : Int) - ((52 : Nat) : Int)) (-1074) := ⟨_, rfl⟩
  rw [← hlast] at hz hi ⊢
  have hlo : -1074 ≤ last := by omega
  have hcut : Toward.even.cut false (m <<< (p - last).toNat) (last - p).toNat ≤ 9007199254740992 ∧ (last = -1074 ∨ 4503599627370496 ≤ Toward.even.cut false (m <<< (p - last).toNat) (last - p).toNat) ∧ (Toward.even.cut false (m <<< (p - last).toNat) (last - p).toNat ≠ 0 → last - p ≤ 56) := by
    have p1 : 2 ^ m.log2 ≤ m := Nat.log2_self_le h0
    have p2 : m < 2 ^ (m.log2 + 1) := Nat.lt_log2_self
    by_cases c : last ≤ p
    · have e0 : (last - p).toNat = 0 := by omega
      rw [e0, cut_zero, Nat.shiftLeft_eq]
      have q2 := Nat.mul_lt_mul_of_pos_right p2 (pow_pos2 (p - last).toNat)
      have q1 := Nat.mul_le_mul_right (2 ^ (p - last).toNat) p1
      rw [← Nat.pow_add] at q1 q2
      have a53 : (2 : Nat) ^ 53 = 9007199254740992 := by decide
      have a52 : (2 : Nat) ^ 52 = 4503599627370496 := by decide
      refine ⟨?_, ?_, fun _ => by omega⟩
      · have : 2 ^ (m.log2 + 1 + (p - last).toNat) ≤ 2 ^ 53 := Nat.pow_le_pow_right (by decide) (by omega)
        omega
      · by_cases l : last = -1074
        · exact Or.inl l
        · right
          have : 2 ^ 52 ≤ 2 ^ (m.log2 + (p - last).toNat) := Nat.pow_le_pow_right (by decide) (by omega)
          omega
    · have e0 : (p - last).toNat = 0 := by omega
      rw [e0, Nat.shiftLeft_zero]
      obtain ⟨d, hd⟩ : ∃ d : Nat, (last - p).toNat = d := ⟨_, rfl⟩
      rw [hd]
      by_cases cd : d ≤ m.log2 + 2
      · have hb : Toward.even.cut false m d ≤ m / 2 ^ d + 1 := by
          unfold Toward.cut
          rw [Nat.min_eq_left cd]
          simp only [Nat.shiftLeft_eq, Nat.one_mul]
          generalize (decide (2 ^ d < 2 * (m % 2 ^ d)) || 2 ^ d == 2 * (m % 2 ^ d) && m / 2 ^ d % 2 == 1) = t
          cases t <;> simp
        have hg : m / 2 ^ d ≤ Toward.even.cut false m d := by
          unfold Toward.cut
          rw [Nat.min_eq_left cd]
          simp only [Nat.shiftLeft_eq, Nat.one_mul]
          exact Nat.le_add_right _ _
        have d1 : 1 ≤ d := by omega
        have hdd : m / 2 ^ d ≤ m / 2 ^ 1 := Nat.div_le_div_left (Nat.pow_le_pow_right (by decide) d1) (by decide)
        have hd1 : m / 2 ^ 1 = m / 2 := rfl
        refine ⟨by omega, ?_, fun _ => by omega⟩
        by_cases l : last = -1074
        · exact Or.inl l
        · right
          have ed : d + 52 = m.log2 := by omega
          have a52 : (2 : Nat) ^ 52 = 4503599627370496 := by decide
          have : 4503599627370496 ≤ m / 2 ^ d := by
            rw [Nat.le_div_iff_mul_le (pow_pos2 d), ← a52, ← Nat.pow_add, Nat.add_comm, ed]
            exact p1
          omega
      · have e1 : Toward.even.cut false m d = 0 := by
          unfold Toward.cut
          rw [Nat.min_eq_right (by omega)]
          simp only [Nat.shiftLeft_eq, Nat.one_mul]
          have b3 : 2 ^ (m.log2 + 2) = 2 * 2 ^ (m.log2 + 1) := by rw [Nat.pow_succ]; omega
          have b4 : m < 2 ^ (m.log2 + 2) := by omega
          rw [Nat.div_eq_of_lt b4, Nat.mod_eq_of_lt b4, decide_eq_false (by omega), show (2 ^ (m.log2 + 2) == 2 * m) = false from beq_eq_false_iff_ne.2 (by omega)]
          rfl
        rw [e1]
        refine ⟨by decide, Or.inl (by omega), fun q => absurd rfl q⟩
  obtain ⟨k1, k2, k3⟩ := hcut
  generalize Toward.even.cut false (m <<< (p - last).toNat) (last - p).toNat = K at *
  have hm : min ((last - -1074).toNat * 4503599627370496 + K) 9218868437227405312 = (last - -1074).toNat * 4503599627370496 + K := by
    rcases Nat.le_total ((last - -1074).toNat * 4503599627370496 + K) 9218868437227405312 with q | q
    · exact Nat.min_eq_left q
    · exact absurd (Nat.min_eq_right q) hi
  rw [hm] at hz hi ⊢
  have hrE : rE ((last - -1074).toNat * 4503599627370496 + K) = last ∨ rE ((last - -1074).toNat * 4503599627370496 + K) = last + 1 := by
    unfold rE
    rcases k2 with k2 | k2
    · subst k2
      have e : ((-1074 : Int) - -1074).toNat = 0 := by decide
      rw [e, Nat.zero_mul, Nat.zero_add]
      by_cases c : K < 4503599627370496
      · rw [if_pos c]; exact Or.inl rfl
      · rw [if_neg c]
        by_cases c2 : K = 9007199254740992
        · subst c2; right; decide
        · left; omega
    · have c : ¬ (last - -1074).toNat * 4503599627370496 + K < 4503599627370496 := by omega
      rw [if_neg c]
      by_cases c2 : K = 9007199254740992
      · subst c2; right; omega
      · left; omega
  have hK : K ≠ 0 ∨ last ≠ -1074 := by
    rcases k2 with k2 | k2
    · left
      rintro rfl
      subst k2
      exact hz (by decide)
    · left; omega
  have hup : last - p ≤ 56 := by
    rcases hK with q | q
    · exact k3 q
    · omega
  rcases hrE with q | q <;> rw [q] <;> omega
/-- There and back tells that the format has the number. -/
theorem ld_back (m : Nat) (h0 : m ≠ 0) (h : m ≤ 9007199254740992) (p : Int) (hq : (double.order (ldW (double.nearest false m p) (-p)) (ofF (m : Int)) == some .eq) = true) (hle : double.nearest false m p ≤ 9218868437227405312) :
    ∃ M E, Can M E ∧ Eqv m p M E ∧ double.nearest false m p = rung M E := by
  obtain ⟨N, F, hd, f, ho⟩ := of_parts m h0 h
  have hN := eqv_zero f h0
  have hoz : rung N F ≠ 0 := by unfold rung; omega
  have hol := rung_lt hd
  rw [ho] at hq
  have hz : double.nearest false m p ≠ 0 := by
    intro q
    rw [q] at hq
    unfold ldW at hq
    rw [if_pos rfl, order_lt (by omega) (by omega)] at hq
    cases hq
  have hi : double.nearest false m p ≠ 9218868437227405312 := by
    intro q
    rw [q] at hq
    unfold ldW at hq
    rw [if_neg (by decide), if_pos rfl, order_gt (by omega) (by decide)] at hq
    cases hq
  obtain ⟨b1, b2⟩ := place_near m h0 h p hz hi
  have hy : double.nearest false m p < 9218868437227405312 := by omega
  have hc := rung_can hy
  have hb := rung_back hy
  generalize double.nearest false m p = y at *
  have hM : rM y ≠ 0 := by
    intro q
    have : rE y = -1074 := by
      rcases hc.top with k | k
      · omega
      · exact k
    unfold rung at hb
    rw [q, this] at hb
    exact hz (by rw [← hb]; decide)
  have e1 : ldW y (-p) = double.nearest false (rM y) (rE y + -p) := by
    unfold ldW; rw [if_neg hz, if_neg hi]
  rw [e1] at hq
  obtain ⟨j, hk⟩ := can_of (rM y) (rE y + -p) hM hc.lt (by omega) (by omega)
  have ej : Eqv (rM y) (rE y + -p) (rM y * 2 ^ j) (rE y + -p - j) := Or.inr ⟨j, rfl, rfl⟩
  rw [nearest_can false hk (eqv_zero ej hM) ej, word_f] at hq
  have hl2 := rung_lt hk
  have hr : rung (rM y * 2 ^ j) (rE y + -p - j) = rung N F := by
    rcases Nat.lt_trichotomy (rung (rM y * 2 ^ j) (rE y + -p - j)) (rung N F) with q | q | q
    · rw [order_lt q (by omega)] at hq; cases hq
    · exact q
    · rw [order_gt q (by omega)] at hq; cases hq
  have c1 := rM_rung hk
  have c2 := rE_rung hk
  rw [hr, rM_rung hd] at c1
  rw [hr, rE_rung hd] at c2
  rw [← c1, ← c2] at ej
  refine ⟨rM y, rE y, hc, ?_, hb.symm⟩
  have e3 := eqv_move p (eqv_trans f (eqv_symm ej))
  rw [show rE y + -p + p = rE y by omega, Int.zero_add] at e3
  exact e3
end Go.Proofs.YtegcecpmdgljpaaGreatDoor

namespace Go.Proofs.YtegcecpmdgljpaaGreatDoor
open Ieee
set_option linter.unusedVariables false

def cutF : Nat → Nat → Int → Bool → Nat × Int × Bool
  | 0, P, e, m => (P, e, m)
  | f + 1, P, e, m => if 18014398509481984 ≤ P ∨ e < -1075 then cutF f (P / 2) (e + 1) (m || P % 2 == 1) else (P, e, m)
theorem cutF_stop (f P : Nat) (e : Int) (m : Bool) (h : ¬ (18014398509481984 ≤ P ∨ e < -1075)) : cutF f P e m = (P, e, m) := by
  cases f with
  | zero => rfl
  | succ f => unfold cutF; rw [if_neg h]
theorem cutF_go (f P : Nat) (e : Int) (m : Bool) (h : 18014398509481984 ≤ P ∨ e < -1075) : cutF (f + 1) P e m = cutF f (P / 2) (e + 1) (m || P % 2 == 1) := by
  conv => lhs; unfold cutF
  rw [if_pos h]
/-- What is told of a number that was cut down. -/
def cutR (s : Bool) (x : Nat × Int × Bool) : Nat :=
  let m0 := x.1 / 2
  let e0 := x.2.1 + 1
  let m1 := if x.1 % 2 = 1 ∧ (x.2.2 = true ∨ m0 % 2 = 1) then m0 + 1 else m0
  let m2 := if 9007199254740992 ≤ m1 then m1 / 2 else m1
  let e1 := if 9007199254740992 ≤ m1 then e0 + 1 else e0
  if 971 < e1 then double.word s 9218868437227405312
  else if m2 < 4503599627370496 then double.word s m2
  else double.word s ((e1 + 1075).toNat * 4503599627370496 + m2 - 4503599627370496)
theorem eqv_even {P : Nat} {e : Int} {M : Nat} {E : Int} (h : Eqv P e M E) (hlt : e < E) : P % 2 = 0 := by
  rcases h with ⟨k, a, b⟩ | ⟨k, a, b⟩
  · obtain ⟨j, rfl⟩ : ∃ j, k = j + 1 := ⟨k - 1, by omega⟩
    rw [a, Nat.pow_succ, ← Nat.mul_assoc, Nat.mul_mod_left]
  · omega
theorem eqv_half {P : Nat} {e : Int} {M : Nat} {E : Int} (h : Eqv P e M E) (hlt : e < E) : Eqv (P / 2) (e + 1) M E := by
  rcases h with ⟨k, a, b⟩ | ⟨k, a, b⟩
  · obtain ⟨j, rfl⟩ : ∃ j, k = j + 1 := ⟨k - 1, by omega⟩
    refine Or.inl ⟨j, ?_, by omega⟩
    rw [a, Nat.pow_succ, ← Nat.mul_assoc, Nat.mul_div_cancel _ (by decide)]
  · omega
/-- Of two spellings of one number that with the smaller whole part has the greater place. -/
theorem eqv_lt {P : Nat} {e : Int} {M : Nat} {E : Int} (h : Eqv P e M E) (hM : M < P) : e < E := by
  rcases h with ⟨k, a, b⟩ | ⟨k, a, b⟩
  · by_cases c : k = 0
    · subst c; rw [a] at hM; simp at hM
    · omega
  · have := Nat.le_mul_of_pos_right P (pow_pos2 k)
    omega
theorem cutF_keeps {M : Nat} {E : Int} (hc : Can M E) : ∀ (f P : Nat) (e : Int), Eqv P e M E → P + (-1075 - e).toNat ≤ f → (9007199254740992 ≤ P ∨ e ≤ -1075) →
    ∃ P' e', cutF f P e false = (P', e', false) ∧ Eqv P' e' M E ∧ P' < 18014398509481984 ∧ -1075 ≤ e' ∧ (9007199254740992 ≤ P' ∨ e' ≤ -1075)
  | 0, P, e, h, hf, hb => by
    have e1 : -1075 ≤ e := by omega
    have p0 : P = 0 := by omega
    subst p0
    exact ⟨0, e, rfl, h, by decide, e1, hb⟩
  | f + 1, P, e, h, hf, hb => by
    by_cases c : 18014398509481984 ≤ P ∨ e < -1075
    · have hlt : e < E := by
        rcases c with c | c
        · exact eqv_lt h (Nat.lt_of_lt_of_le hc.lt (by omega))
        · have := hc.lo; omega
      have hev := eqv_even h hlt
      rw [cutF_go f P e false c, hev, show (false || (0 : Nat) == 1) = false from rfl]
      exact cutF_keeps hc f (P / 2) (e + 1) (eqv_half h hlt) (by omega) (by omega)
    · rw [cutF_stop _ _ _ _ c]
      exact ⟨P, e, rfl, h, by omega, by omega, hb⟩
/-- Where the format has the number, it is told. -/
theorem cut_exact (s : Bool) {M : Nat} {E : Int} (hc : Can M E) (f P : Nat) (e : Int) (h : Eqv P e M E) (hf : P + (-1075 - e).toNat ≤ f) (hb : 9007199254740992 ≤ P) : cutR s (cutF f P e false) = double.word s (rung M E) := by
  obtain ⟨Q, q, hq, h2, b1, b2, b3⟩ := cutF_keeps hc f P e h hf (Or.inl hb)
  rw [hq]
  have hlt : q < E := by
    rcases b3 with b3 | b3
    · exact eqv_lt h2 (Nat.lt_of_lt_of_le hc.lt b3)
    · have := hc.lo; omega
  have hev := eqv_even h2 hlt
  have h3 := eqv_half h2 hlt
  have hQ0 : Q / 2 = 0 → M = 0 := by
    intro z
    have : Q = 0 := by omega
    subst this
    rcases h2 with ⟨k, a, b⟩ | ⟨k, a, b⟩
    · rcases Nat.mul_eq_zero.1 a.symm with c | c
      · exact c
      · exact absurd c (pow_ne k)
    · rw [a]; simp
  have i1 : (if Q % 2 = 1 ∧ (false = true ∨ Q / 2 % 2 = 1) then Q / 2 + 1 else Q / 2) = Q / 2 := if_neg (by omega)
  have n1 : ¬ 9007199254740992 ≤ Q / 2 := by omega
  unfold cutR
  simp only [i1, n1, if_false]
  have hle : 4503599627370496 ≤ Q / 2 → q + 1 ≤ E := fun k => by omega
  rw [if_neg (by have := hc.hi; omega)]
  by_cases c : Q / 2 < 4503599627370496
  · rw [if_pos c]
    have hq1 : q + 1 = -1074 := by omega
    apply word_mk
    by_cases z : Q / 2 = 0
    · have hM := hQ0 z
      have : E = -1074 := by
        rcases hc.top with k | k
        · omega
        · exact k
      unfold rung
      rw [hM, this, z]; decide
    · have hc2 : Can (Q / 2) (q + 1) := ⟨by omega, by omega, by omega, Or.inr hq1⟩
      obtain ⟨a, b⟩ := can_same hc2 hc z h3
      rw [← a, ← b]
      unfold rung
      rw [hq1]; simp
  · rw [if_neg c]
    apply word_mk
    have hc2 : Can (Q / 2) (q + 1) := ⟨by omega, by omega, by have := hc.hi; omega, Or.inl (by omega)⟩
    obtain ⟨a, b⟩ := can_same hc2 hc (by omega) h3
    rw [← a, ← b]
    unfold rung
    omega
theorem pair_lt {a b : Nat} (h : a < 18446744073709551616) (k : b < 18446744073709551616) : a + 18446744073709551616 * b < 2 ^ 128 := by
  have e : (2 : Nat) ^ 128 = 18446744073709551616 * 18446744073709551616 := by decide +kernel
  rw [e]
  have := Nat.mul_le_mul_left 18446744073709551616 (show b ≤ 18446744073709551615 by omega)
  omega
theorem room_top {P P0 k : Nat} (h : P * 2 ^ k ≤ P0) (h0 : P0 < 2 ^ 128) (hP : 18014398509481984 ≤ P) : k ≤ 73 := by
  have e : (18014398509481984 : Nat) = 2 ^ 54 := by decide +kernel
  rw [e] at hP
  have a := Nat.mul_le_mul_right (2 ^ k) hP
  rw [← Nat.pow_add] at a
  have b : 2 ^ (54 + k) < 2 ^ 128 := Nat.lt_of_le_of_lt (Nat.le_trans a h) h0
  have := (Nat.pow_lt_pow_iff_right (by decide : 1 < 2)).1 b
  omega
theorem room_step {P P0 k : Nat} (h : P * 2 ^ k ≤ P0) : P / 2 * 2 ^ (k + 1) ≤ P0 := by
  refine Nat.le_trans ?_ h
  rw [Nat.pow_succ, Nat.mul_comm (2 ^ k) 2, ← Nat.mul_assoc]
  exact Nat.mul_le_mul_right _ (Nat.div_mul_le_self P 2)
/-- What holds at each step of cutting down. -/
structure CutInv (e0 : Int) (P0 : Nat) (fin : Nat × Int × Bool) (a b : Nat) (E : Int) (mm : Bool) : Prop where
  ha : a < 18446744073709551616
  hb : b < 18446744073709551616
  e1 : e0 ≤ E
  e2 : E ≤ 40000
  room : (a + 18446744073709551616 * b) * 2 ^ (E - e0).toNat ≤ P0
  runs : ∃ f, cutF f (a + 18446744073709551616 * b) E mm = fin ∧ a + 18446744073709551616 * b + (-1075 - E).toNat ≤ f
theorem CutInv.step {e0 : Int} {P0 : Nat} {fin : Nat × Int × Bool} {a b : Nat} {E : Int} {mm : Bool} (h : CutInv e0 P0 fin a b E mm) (h0 : P0 < 2 ^ 128) (he : e0 ≤ 20000) (c : b ≠ 0 ∨ 18014398509481984 ≤ a ∨ E < -1075) (o : Bool) (ho : (a % 2 == 1) = o) (x : Nat) (hx : x = a / 2 + (if b % 2 = 1 then 9223372036854775808 else 0)) :
    CutInv e0 P0 fin x (b / 2) (E + 1) (mm || o) ∧ E < 40000 := by
  obtain ⟨ha, hb, e1, e2, room, f, hf, hm⟩ := h
  have hP : x + 18446744073709551616 * (b / 2) = (a + 18446744073709551616 * b) / 2 := by rw [hx]; split <;> omega
  have hc : 18014398509481984 ≤ a + 18446744073709551616 * b ∨ E < -1075 := by omega
  have hE : E < 40000 := by
    rcases hc with hc | hc
    · have := room_top room h0 hc; omega
    · omega
  refine ⟨⟨by rw [hx]; split <;> omega, by omega, by omega, by omega, ?_, ?_⟩, hE⟩
  · rw [hP, show (E + 1 - e0).toNat = (E - e0).toNat + 1 by omega]
    exact room_step room
  · obtain ⟨g, rfl⟩ : ∃ g, f = g + 1 := ⟨f - 1, by omega⟩
    rw [cutF_go g _ _ _ hc] at hf
    refine ⟨g, ?_, by rw [hP]; omega⟩
    have eo : ((a + 18446744073709551616 * b) % 2 == 1) = o := by
      rw [← ho, show (a + 18446744073709551616 * b) % 2 = a % 2 by omega]
    rw [hP, ← eo]
    exact hf
theorem CutInv.stop {e0 : Int} {P0 : Nat} {fin : Nat × Int × Bool} {a b : Nat} {E : Int} {mm : Bool} (h : CutInv e0 P0 fin a b E mm) (c1 : b = 0) (c2 : a < 18014398509481984) (c3 : -1075 ≤ E) : fin = (a, E, mm) := by
  obtain ⟨ha, hb, e1, e2, room, f, hf, hm⟩ := h
  rw [c1, Nat.mul_zero, Nat.add_zero, cutF_stop f a E mm (by omega)] at hf
  exact hf.symm
/-- What is told, case by case. -/
theorem cutR_inf (s : Bool) (a : Nat) (E : Int) (mm : Bool) (m1 : Nat) (h : (if a % 2 = 1 ∧ (mm = true ∨ a / 2 % 2 = 1) then a / 2 + 1 else a / 2) = m1) (c : m1 < 9007199254740992) (k : 971 < E + 1) : cutR s (a, E, mm) = double.word s 9218868437227405312 := by
  have n1 : ¬ 9007199254740992 ≤ m1 := by omega
  unfold cutR
  simp only [h, n1, if_false]
  rw [if_pos k]
theorem cutR_sub (s : Bool) (a : Nat) (E : Int) (mm : Bool) (m1 : Nat) (h : (if a % 2 = 1 ∧ (mm = true ∨ a / 2 % 2 = 1) then a / 2 + 1 else a / 2) = m1) (c : m1 < 4503599627370496) (k : E + 1 ≤ 971) : cutR s (a, E, mm) = double.word s m1 := by
  have n1 : ¬ 9007199254740992 ≤ m1 := by omega
  unfold cutR
  simp only [h, n1, if_false]
  rw [if_neg (by omega), if_pos c]
theorem cutR_norm (s : Bool) (a : Nat) (E : Int) (mm : Bool) (m1 : Nat) (h : (if a % 2 = 1 ∧ (mm = true ∨ a / 2 % 2 = 1) then a / 2 + 1 else a / 2) = m1) (c : m1 < 9007199254740992) (d : ¬ m1 < 4503599627370496) (k : E + 1 ≤ 971) : cutR s (a, E, mm) = double.word s ((E + 1 + 1075).toNat * 4503599627370496 + m1 - 4503599627370496) := by
  have n1 : ¬ 9007199254740992 ≤ m1 := by omega
  unfold cutR
  simp only [h, n1, if_false]
  rw [if_neg (by omega), if_neg d]
theorem cutR_cinf (s : Bool) (a : Nat) (E : Int) (mm : Bool) (h : (if a % 2 = 1 ∧ (mm = true ∨ a / 2 % 2 = 1) then a / 2 + 1 else a / 2) = 9007199254740992) (k : 971 < E + 1 + 1) : cutR s (a, E, mm) = double.word s 9218868437227405312 := by
  unfold cutR
  simp only [h, Nat.le_refl, if_true]
  rw [if_pos k]
theorem cutR_cnorm (s : Bool) (a : Nat) (E : Int) (mm : Bool) (h : (if a % 2 = 1 ∧ (mm = true ∨ a / 2 % 2 = 1) then a / 2 + 1 else a / 2) = 9007199254740992) (k : E + 1 + 1 ≤ 971) : cutR s (a, E, mm) = double.word s ((E + 1 + 1 + 1075).toNat * 4503599627370496 + 4503599627370496 - 4503599627370496) := by
  unfold cutR
  simp only [h, Nat.le_refl, if_true]
  rw [if_neg (by omega), if_neg (by decide)]
end Go.Proofs.YtegcecpmdgljpaaGreatDoor

namespace Go.Proofs.YtegcecpmdgljpaaGreatDoor
open Go.RowKit
set_option linter.unusedVariables false

open Ieee (double)
theorem rsigned4 (s : Bool) (x : Int) (h0 : 0 ≤ x) (h1 : x < 9223372036854775808) (w : World) : Calls Tryz.prog 84 #[.bool s, .int .u64 x] w fun e w' => e = .returned (.int .i64 (wrap64 (if s then x + 9223372036854775808 else x))) ∧ w = w' := by
  cases s
  · go_enter Tryz.func84, Tryz.ntmps84
    go_wp2
    go_ret
    exact ⟨ret_i64 (IntWalk.wrap64_in x ⟨by omega, by omega⟩).symm, rfl⟩
  · go_enter Tryz.func84, Tryz.ntmps84
    go_wp2
    go_ret
    exact ⟨ret_i64 rfl, rfl⟩
theorem cell_word (s : Bool) (r : Nat) (h : r ≤ 9218868437227405312) : wrap64 (if s then (r : Int) + 9223372036854775808 else (r : Int)) = cellOf (double.word s r) := by
  have e : cellOf (double.word s r) = wrap64 ((double.word s r : Nat) : Int) := by unfold cellOf; rw [isN_word s h, if_neg Bool.false_ne_true]
  rw [e, word_d]
  cases s
  · simp
  · have e2 : ((9223372036854775808 : Nat) : Int) = 9223372036854775808 := rfl
    rw [if_pos rfl, if_pos rfl, Int.natCast_add, Int.add_comm, e2]
theorem rinf4 (s : Bool) (w : World) : Calls Tryz.prog 80 #[.bool s] w fun e w' => e = .returned (.int .i64 (cellOf (double.word s 9218868437227405312))) ∧ w = w' := by
  have h := Lib.hid (rsigned4 s 9218868437227405312 (by decide) (by decide))
  rw [← cell_word s 9218868437227405312 (by decide)]
  show Calls _ _ _ _ fun e w' => e = .returned (.int .i64 (wrap64 (if s = true then (9218868437227405312 : Int) + 9223372036854775808 else 9218868437227405312))) ∧ w = w'
  generalize wrap64 (if s = true then (9218868437227405312 : Int) + 9223372036854775808 else 9218868437227405312) = c at *
  go_enter Tryz.func80, Tryz.ntmps80
  go_wp2_with fail
  refine (h.out _).mono ?_
  rintro e w1 ⟨rfl, rfl⟩
  go_wp2_with fail
  go_ret
  exact ⟨rfl, rfl⟩
set_option maxHeartbeats 2000000 in
set_option maxRecDepth 100000 in
theorem ropen_fin (f : Int) (X m q : Nat) (s : Bool) (hs : decide (f < 0) = s) (ex : IntKind.u64.wrap f = (X : Int)) (em : (X : Int) % 4503599627370496 = (m : Int)) (ee : (X : Int) / 4503599627370496 % 2048 = (q : Int)) (hm : m < 4503599627370496) (h0 : q ≠ 0) (h1 : q < 2047) (hX : X < 18446744073709551616) (w : World) :
    Calls Tryz.prog 58 #[.int .i64 f] w fun e w' => e = .returned (.agg #[.int .i64 2, .bool s, .int .u64 ((m : Int) + 4503599627370496), .int .i64 ((q : Int) - 1075)]) ∧ Ext w w' := by
  have X0 : (0 : Int) ≤ (X : Int) := by omega
  have X1 : (X : Int) < 18446744073709551616 := by omega
  have q1 : ((q : Int) == 2047) = false := by simp; omega
  have q2 : ((q : Int) == 0) = false := by simp; omega
  have hm0 : (m : Int) < 4503599627370496 := by omega
  have hq0 : (q : Int) < 2047 := by omega
  go_enter Tryz.func58, Tryz.ntmps58
  go_wp2
  exact bodyPost_ret (v := .agg #[.int .i64 2, .bool s, .int .u64 ((m : Int) + 4503599627370496), .int .i64 ((q : Int) - 1075)]) (by simp [results, Tryz.results58, go_sem]) rfl ⟨rfl, ((Ext.refl _).cells _ _).cells _ _⟩
set_option maxHeartbeats 2000000 in
set_option maxRecDepth 100000 in
theorem ropen_sub (f : Int) (X m : Nat) (s : Bool) (hs : decide (f < 0) = s) (ex : IntKind.u64.wrap f = (X : Int)) (em : (X : Int) % 4503599627370496 = (m : Int)) (ee : (X : Int) / 4503599627370496 % 2048 = 0) (hm : m < 4503599627370496) (hX : X < 18446744073709551616) (w : World) :
    Calls Tryz.prog 58 #[.int .i64 f] w fun e w' => e = .returned (.agg #[.int .i64 2, .bool s, .int .u64 (m : Int), .int .i64 (-1074)]) ∧ Ext w w' := by
  have X0 : (0 : Int) ≤ (X : Int) := by omega
  have X1 : (X : Int) < 18446744073709551616 := by omega
  go_enter Tryz.func58, Tryz.ntmps58
  go_wp2
  exact bodyPost_ret (v := .agg #[.int .i64 2, .bool s, .int .u64 (m : Int), .int .i64 (-1074)]) (by simp [results, Tryz.results58, go_sem]) rfl ⟨rfl, ((Ext.refl _).cells _ _).cells _ _⟩
set_option maxHeartbeats 2000000 in
set_option maxRecDepth 100000 in
theorem ropen_inf (f : Int) (X : Nat) (s : Bool) (hs : decide (f < 0) = s) (ex : IntKind.u64.wrap f = (X : Int)) (em : (X : Int) % 4503599627370496 = 0) (ee : (X : Int) / 4503599627370496 % 2048 = 2047) (hX : X < 18446744073709551616) (w : World) :
    Calls Tryz.prog 58 #[.int .i64 f] w fun e w' => e = .returned (.agg #[.int .i64 1, .bool s, .int .u64 0, .int .i64 0]) ∧ Ext w w' := by
  have X0 : (0 : Int) ≤ (X : Int) := by omega
  have X1 : (X : Int) < 18446744073709551616 := by omega
  go_enter Tryz.func58, Tryz.ntmps58
  go_wp2
  exact bodyPost_ret (v := .agg #[.int .i64 1, .bool s, .int .u64 0, .int .i64 0]) (by simp [results, Tryz.results58, go_sem]) rfl ⟨rfl, ((Ext.refl _).cells _ _).cells _ _⟩
set_option maxHeartbeats 2000000 in
set_option maxRecDepth 100000 in
theorem ropen_nan (f : Int) (X m : Nat) (s : Bool) (hs : decide (f < 0) = s) (ex : IntKind.u64.wrap f = (X : Int)) (em : (X : Int) % 4503599627370496 = (m : Int)) (ee : (X : Int) / 4503599627370496 % 2048 = 2047) (hm : ((m : Int) != 0) = true) (hX : X < 18446744073709551616) (w : World) :
    Calls Tryz.prog 58 #[.int .i64 f] w fun e w' => e = .returned (.agg #[.int .i64 0, .bool s, .int .u64 (m : Int), .int .i64 0]) ∧ Ext w w' := by
  have X0 : (0 : Int) ≤ (X : Int) := by omega
  have X1 : (X : Int) < 18446744073709551616 := by omega
  go_enter Tryz.func58, Tryz.ntmps58
  go_wp2
  exact bodyPost_ret (v := .agg #[.int .i64 0, .bool s, .int .u64 (m : Int), .int .i64 0]) (by simp [results, Tryz.results58, go_sem]) rfl ⟨rfl, ((Ext.refl _).cells _ _).cells _ _⟩
end Go.Proofs.YtegcecpmdgljpaaGreatDoor

namespace Go.Proofs.YtegcecpmdgljpaaGreatDoor
open Go.RowKit
set_option linter.unusedVariables false
open Ieee (double)

theorem u64_low (a : Nat) (h : a < 18446744073709551616) : IntKind.u64.wrap (wrap64 (a : Int)) = (a : Int) := u64_of_wrap _ (by omega) (by omega)
theorem wrap_nil (b : Nat) (h : b < 18446744073709551616) : wrap64 (b : Int) = 0 ↔ b = 0 := by unfold wrap64; omega
theorem wrap_zero (b : Nat) (h : b < 18446744073709551616) (t : Bool) (ht : (b != 0) = t) : (wrap64 (b : Int) != 0) = t := by
  rw [← ht, Bool.eq_iff_iff, bne_iff_ne, bne_iff_ne]
  exact not_congr (wrap_nil b h)
theorem wrap_even (a : Nat) (h : a < 18446744073709551616) : (wrap64 (a : Int)).tmod 2 = 0 ↔ a % 2 = 0 := by
  have e : (wrap64 (a : Int)).tmod 2 = 0 ↔ (wrap64 (a : Int)) % 2 = 0 :=
    ⟨fun q => by have := Int.dvd_of_tmod_eq_zero q; omega, fun q => Int.tmod_eq_zero_of_dvd (Int.dvd_of_emod_eq_zero q)⟩
  rw [e]
  unfold wrap64
  omega
theorem wrap_odd (a : Nat) (h : a < 18446744073709551616) (t : Bool) (ht : (a % 2 == 1) = t) : ((wrap64 (a : Int)).tmod 2 != 0) = t := by
  rw [← ht, Bool.eq_iff_iff, bne_iff_ne, beq_iff_eq, Ne, wrap_even a h]
  omega
theorem nat_low (a : Nat) : (0 : Int) ≤ (a : Int) := Int.natCast_nonneg a
theorem nat_high (a : Nat) (h : a < 18446744073709551616) : (a : Int) < 18446744073709551616 := by omega
theorem half_cell (a : Nat) (h : a < 18446744073709551616) : wrap64 ((a / 2 : Nat) : Int) = (a : Int) / 2 := by unfold wrap64; omega
theorem le54 {a : Nat} (h : 18014398509481984 ≤ a) : (18014398509481984 : Int) ≤ (a : Int) := by omega
theorem nle54 {a : Nat} (h : ¬ 18014398509481984 ≤ a) : ¬ (18014398509481984 : Int) ≤ (a : Int) := by omega
theorem even_of_zero {b : Nat} (h : b = 0) : b % 2 = 0 := by omega
/-- A step where the upper cell is even. -/
theorem step_even {e0 : Int} {P0 : Nat} {fin : Nat × Int × Bool} {a b : Nat} {E : Int} {mm : Bool} (h : CutInv e0 P0 fin a b E mm) (h0 : P0 < 2 ^ 128) (he : e0 ≤ 20000) (c : b ≠ 0 ∨ 18014398509481984 ≤ a ∨ E < -1075) (o : Bool) (ho : (a % 2 == 1) = o) (hb : b % 2 = 0) :
    ∃ x y : Nat, CutInv e0 P0 fin x y (E + 1) (mm || o) ∧ E < 40000 ∧ wrap64 (x : Int) = (a : Int) / 2 ∧ wrap64 (y : Int) = (b : Int) / 2 := by
  obtain ⟨k, hE⟩ := h.step h0 he c o ho (a / 2) (by rw [if_neg (by omega), Nat.add_zero])
  exact ⟨a / 2, b / 2, k, hE, half_cell a h.ha, half_cell b h.hb⟩
/-- A step where it is odd. -/
theorem step_odd {e0 : Int} {P0 : Nat} {fin : Nat × Int × Bool} {a b : Nat} {E : Int} {mm : Bool} (h : CutInv e0 P0 fin a b E mm) (h0 : P0 < 2 ^ 128) (he : e0 ≤ 20000) (c : b ≠ 0 ∨ 18014398509481984 ≤ a ∨ E < -1075) (o : Bool) (ho : (a % 2 == 1) = o) (hb : b % 2 = 1) :
    ∃ x y : Nat, CutInv e0 P0 fin x y (E + 1) (mm || o) ∧ E < 40000 ∧ wrap64 (x : Int) = wrap64 ((a : Int) / 2 + 9223372036854775808) ∧ wrap64 (y : Int) = (b : Int) / 2 := by
  obtain ⟨x, hx⟩ : ∃ x : Nat, x = a / 2 + (if b % 2 = 1 then 9223372036854775808 else 0) := ⟨_, rfl⟩
  obtain ⟨k, hE⟩ := h.step h0 he c o ho x hx
  refine ⟨x, b / 2, k, hE, ?_, half_cell b h.hb⟩
  rw [if_pos hb] at hx
  have e : (x : Int) = (a : Int) / 2 + 9223372036854775808 := by omega
  rw [e]
/-- The end: what is laid together. -/
theorem norm_val (s : Bool) (E : Int) (q : Nat) (h1 : -1075 ≤ E) (h2 : E + 1 ≤ 971) (h3 : 4503599627370496 ≤ q) (h4 : q < 9007199254740992) : 0 ≤ (E + 1 + 1075) * 4503599627370496 + (q : Int) - 4503599627370496 ∧ (E + 1 + 1075) * 4503599627370496 + (q : Int) - 4503599627370496 < 9223372036854775808 ∧
    wrap64 (if s then (E + 1 + 1075) * 4503599627370496 + (q : Int) - 4503599627370496 + 9223372036854775808 else (E + 1 + 1075) * 4503599627370496 + (q : Int) - 4503599627370496) = cellOf (double.word s ((E + 1 + 1075).toNat * 4503599627370496 + q - 4503599627370496)) := by
  have hr : (E + 1 + 1075).toNat * 4503599627370496 + q - 4503599627370496 ≤ 9218868437227405312 := by omega
  have er : (((E + 1 + 1075).toNat * 4503599627370496 + q - 4503599627370496 : Nat) : Int) = (E + 1 + 1075) * 4503599627370496 + (q : Int) - 4503599627370496 := by omega
  have k := cell_word s _ hr
  rw [er] at k
  exact ⟨by omega, by omega, k⟩
theorem sub_val (s : Bool) (q : Nat) (h : q < 4503599627370496) : (0 : Int) ≤ (q : Int) ∧ (q : Int) < 9223372036854775808 ∧ wrap64 (if s then (q : Int) + 9223372036854775808 else (q : Int)) = cellOf (double.word s q) :=
  ⟨by omega, by omega, cell_word s q (by omega)⟩
/-- The cell l holds the bits a. -/
structure Cel (l : Int) (a : Nat) : Prop where
  lt : a < 18446744073709551616
  is : l = wrap64 (a : Int)
theorem Cel.u64 {l : Int} {a : Nat} (h : Cel l a) : IntKind.u64.wrap l = (a : Int) := by rw [h.is]; exact u64_low a h.lt
theorem Cel.zero {l : Int} {a : Nat} (h : Cel l a) (t : Bool) (ht : (a != 0) = t) : (l != 0) = t := by rw [h.is]; exact wrap_zero a h.lt t ht
theorem Cel.odd {l : Int} {a : Nat} (h : Cel l a) (t : Bool) (ht : (a % 2 == 1) = t) : (l.tmod 2 != 0) = t := by rw [h.is]; exact wrap_odd a h.lt t ht
theorem cel_even {e0 : Int} {P0 : Nat} {fin : Nat × Int × Bool} {a b : Nat} {E : Int} {mm : Bool} (h : CutInv e0 P0 fin a b E mm) (h0 : P0 < 2 ^ 128) (he : e0 ≤ 20000) (c : b ≠ 0 ∨ 18014398509481984 ≤ a ∨ E < -1075) (o : Bool) (ho : (a % 2 == 1) = o) (hb : b % 2 = 0) :
    ∃ x y : Nat, CutInv e0 P0 fin x y (E + 1) (mm || o) ∧ E < 40000 ∧ Cel ((a : Int) / 2) x ∧ Cel ((b : Int) / 2) y := by
  obtain ⟨x, y, k, hE, hx, hy⟩ := step_even h h0 he c o ho hb
  exact ⟨x, y, k, hE, ⟨k.ha, hx.symm⟩, ⟨k.hb, hy.symm⟩⟩
theorem cel_odd {e0 : Int} {P0 : Nat} {fin : Nat × Int × Bool} {a b : Nat} {E : Int} {mm : Bool} (h : CutInv e0 P0 fin a b E mm) (h0 : P0 < 2 ^ 128) (he : e0 ≤ 20000) (c : b ≠ 0 ∨ 18014398509481984 ≤ a ∨ E < -1075) (o : Bool) (ho : (a % 2 == 1) = o) (hb : b % 2 = 1) :
    ∃ x y : Nat, CutInv e0 P0 fin x y (E + 1) (mm || o) ∧ E < 40000 ∧ Cel (wrap64 ((a : Int) / 2 + 9223372036854775808)) x ∧ Cel ((b : Int) / 2) y := by
  obtain ⟨x, y, k, hE, hx, hy⟩ := step_odd h h0 he c o ho hb
  exact ⟨x, y, k, hE, ⟨k.ha, hx.symm⟩, ⟨k.hb, hy.symm⟩⟩
theorem way_inf {s : Bool} {a : Nat} {E : Int} {mm : Bool} {fin : Nat × Int × Bool} {res : Int} (hres : res = cellOf (cutR s fin)) (hst : fin = (a, E, mm)) {n : Nat} (hm : (if a % 2 = 1 ∧ (mm = true ∨ a / 2 % 2 = 1) then a / 2 + 1 else a / 2) = n) (c : n < 9007199254740992) (k : 971 < E + 1) (w : World) : Calls Tryz.prog 80 #[.bool s] w fun e w' => e = .returned (.int .i64 res) ∧ w = w' := by
  have h := rinf4 s w
  rw [hres, hst, cutR_inf s a E mm n hm c k]
  exact h
theorem way_sub {s : Bool} {a : Nat} {E : Int} {mm : Bool} {fin : Nat × Int × Bool} {res : Int} (hres : res = cellOf (cutR s fin)) (hst : fin = (a, E, mm)) {n : Nat} (hm : (if a % 2 = 1 ∧ (mm = true ∨ a / 2 % 2 = 1) then a / 2 + 1 else a / 2) = n) (m : Int) (hn : (n : Int) = m) (c : n < 4503599627370496) (k : E + 1 ≤ 971) (w : World) : Calls Tryz.prog 84 #[.bool s, .int .u64 m] w fun e w' => e = .returned (.int .i64 res) ∧ w = w' := by
  obtain ⟨h0, h1, h2⟩ := sub_val s n c
  have h := rsigned4 s (n : Int) h0 h1 w
  rw [h2, hn] at h
  rw [hres, hst, cutR_sub s a E mm n hm c k]
  exact h
theorem way_norm {s : Bool} {a : Nat} {E : Int} {mm : Bool} {fin : Nat × Int × Bool} {res : Int} (hres : res = cellOf (cutR s fin)) (hst : fin = (a, E, mm)) {n : Nat} (hm : (if a % 2 = 1 ∧ (mm = true ∨ a / 2 % 2 = 1) then a / 2 + 1 else a / 2) = n) (m : Int) (hn : (n : Int) = m) (c : n < 9007199254740992) (d : ¬ n < 4503599627370496) (k : E + 1 ≤ 971) (lo : -1075 ≤ E) (w : World) : Calls Tryz.prog 84 #[.bool s, .int .u64 ((E + 1 + 1075) * 4503599627370496 + m - 4503599627370496)] w fun e w' => e = .returned (.int .i64 res) ∧ w = w' := by
  obtain ⟨h0, h1, h2⟩ := norm_val s E n lo k (Nat.le_of_not_lt d) c
  have h := rsigned4 s _ h0 h1 w
  rw [h2, hn] at h
  rw [hres, hst, cutR_norm s a E mm n hm c d k]
  exact h
theorem way_cinf {s : Bool} {a : Nat} {E : Int} {mm : Bool} {fin : Nat × Int × Bool} {res : Int} (hres : res = cellOf (cutR s fin)) (hst : fin = (a, E, mm)) (hm : (if a % 2 = 1 ∧ (mm = true ∨ a / 2 % 2 = 1) then a / 2 + 1 else a / 2) = 9007199254740992) (k : 971 < E + 1 + 1) (w : World) : Calls Tryz.prog 80 #[.bool s] w fun e w' => e = .returned (.int .i64 res) ∧ w = w' := by
  have h := rinf4 s w
  rw [hres, hst, cutR_cinf s a E mm hm k]
  exact h
theorem way_cnorm {s : Bool} {a : Nat} {E : Int} {mm : Bool} {fin : Nat × Int × Bool} {res : Int} (hres : res = cellOf (cutR s fin)) (hst : fin = (a, E, mm)) (hm : (if a % 2 = 1 ∧ (mm = true ∨ a / 2 % 2 = 1) then a / 2 + 1 else a / 2) = 9007199254740992) (k : E + 1 + 1 ≤ 971) (lo : -1075 ≤ E) (w : World) : Calls Tryz.prog 84 #[.bool s, .int .u64 ((E + 1 + 1 + 1075) * 4503599627370496)] w fun e w' => e = .returned (.int .i64 res) ∧ w = w' := by
  have hr : (E + 1 + 1 + 1075).toNat * 4503599627370496 + 4503599627370496 - 4503599627370496 ≤ 9218868437227405312 := by omega
  have er : (((E + 1 + 1 + 1075).toNat * 4503599627370496 + 4503599627370496 - 4503599627370496 : Nat) : Int) = (E + 1 + 1 + 1075) * 4503599627370496 := by omega
  have k2 := cell_word s _ hr
  rw [er] at k2
  have h := rsigned4 s ((E + 1 + 1 + 1075) * 4503599627370496) (by omega) (by omega) w
  rw [k2] at h
  rw [hres, hst, cutR_cnorm s a E mm hm k]
  exact h
theorem half_bd {a : Nat} (h : ¬ 18014398509481984 ≤ a) : a / 2 < 9007199254740992 := by omega
theorem int_bd {q : Nat} (h : q < 9007199254740992) : ¬ (9007199254740992 : Int) ≤ (q : Int) := by omega
theorem int_lo {q : Nat} (h : q < 4503599627370496) : (q : Int) < 4503599627370496 := by omega
theorem int_hi {q : Nat} (h : ¬ q < 4503599627370496) : ¬ (q : Int) < 4503599627370496 := by omega
theorem int_lo1 {q : Nat} (h : q + 1 < 4503599627370496) : (q : Int) + 1 < 4503599627370496 := by omega
theorem int_hi1 {q : Nat} (h : ¬ q + 1 < 4503599627370496) : ¬ (q : Int) + 1 < 4503599627370496 := by omega
theorem odd_test {a : Nat} (t : Bool) (h : (a % 2 == 1) = t) : ((a : Int) % 2 == 1) = t := by
  rw [← h, Bool.eq_iff_iff, beq_iff_eq, beq_iff_eq]; omega
theorem inc_no (a : Nat) (mm : Bool) (h : a % 2 = 0 ∨ (mm = false ∧ a / 2 % 2 = 0)) : (if a % 2 = 1 ∧ (mm = true ∨ a / 2 % 2 = 1) then a / 2 + 1 else a / 2) = a / 2 := by
  apply if_neg
  rintro ⟨p, q⟩
  rcases h with h | ⟨h1, h2⟩
  · omega
  · rcases q with q | q
    · rw [h1] at q; cases q
    · omega
theorem inc_yes (a : Nat) (mm : Bool) (h : a % 2 = 1) (k : mm = true ∨ a / 2 % 2 = 1) : (if a % 2 = 1 ∧ (mm = true ∨ a / 2 % 2 = 1) then a / 2 + 1 else a / 2) = a / 2 + 1 := if_pos ⟨h, k⟩
theorem carry_no {q : Nat} (h : q < 9007199254740992) (k : ¬ q + 1 = 9007199254740992) : q + 1 < 9007199254740992 ∧ ¬ (9007199254740992 : Int) ≤ (q : Int) + 1 := by omega
theorem carry_yes {q : Nat} (k : q + 1 = 9007199254740992) : (q : Int) + 1 = 9007199254740992 := by omega
set_option maxHeartbeats 16000000 in
set_option maxRecDepth 100000 in
theorem rcut4 (s : Bool) (l0 h0 : Int) (a0 b0 : Nat) (k0 : Cel l0 a0) (k1 : Cel h0 b0) (e0 : Int) (m0 : Bool) (P0 : Nat) (hP0 : P0 < 2 ^ 128) (he : e0 ≤ 20000) (fin : Nat × Int × Bool) (hi0 : CutInv e0 P0 fin a0 b0 e0 m0) (hnz : (l0 == 0 && h0 == 0) = false) (elo : -20000 ≤ e0) (w : World) :
    Calls Tryz.prog 184 #[.bool s, .agg #[.int .i64 l0, .int .i64 h0], .int .i64 e0, .bool m0] w fun e w' => e = .returned (.int .i64 (cellOf (cutR s fin))) ∧ Ext w w' := by
  have hsg := Lib.hid (rsigned4 s)
  have hin := Lib.hid (rinf4 s)
  have HP := Lib.hid hP0
  obtain ⟨res, hres⟩ : ∃ res, res = cellOf (cutR s fin) := ⟨_, rfl⟩
  rw [← hres]
  have RES := Lib.hid hres
  clear hP0 hres
  go_enter Tryz.func184, Tryz.ntmps184
  go_wp2
  clear hnz
  have o0 : Own (w.alloc (.cells #[Value.int .i64 l0, Value.int .i64 h0] 44)) w.heap.size (.int .i64 l0) (.int .i64 h0) := Own.last
  have hE : Ext w (w.alloc (.cells #[Value.int .i64 l0, Value.int .i64 h0] 44)) := (Ext.refl w).cells _ _
  go_loopw [2, 3] (fun e m wr => ∃ (a b : Nat) (E : Int) (mm : Bool) (l h : Int), e = .int .i64 E ∧ m = .bool mm ∧ CutInv e0 P0 fin a b E mm ∧ Cel l a ∧ Cel h b ∧ Own wr w.heap.size (.int .i64 l) (.int .i64 h) ∧ Ext w wr) (fun e _ _ => (40001 - intOf e).toNat)
  case atStart => exact ⟨a0, b0, e0, m0, l0, h0, rfl, rfl, hi0, k0, k1, o0, hE⟩
  case round =>
    obtain ⟨a, b, E, mm, l, h, rfl, rfl, inv, ka, kb, p, hx⟩ := hrel
    clear o0 hE hi0 k0 k1
    have INV0 := Lib.hid inv
    have E1 := inv.e1
    have E2 := inv.e2
    clear inv
    have ua := ka.u64
    have ub := kb.u64
    have a1 := nat_low a
    have a2 := nat_high a ka.lt
    have b1 := nat_low b
    have b2 := nat_high b kb.lt
    have c0 := p.c0
    have c1 := p.c1
    have f0 := p.f0
    have f1 := p.f1
    have lt := p.lt
    obtain ⟨o, ho⟩ : ∃ o, (a % 2 == 1) = o := ⟨_, rfl⟩
    have oa := ka.odd o ho
    have HO := Lib.hid ho
    clear ho
    by_cases hbz : b = 0
    · have zb := kb.zero false (by rw [hbz]; rfl)
      have ob := kb.odd false (by rw [hbz]; rfl)
      have HBE := Lib.hid (even_of_zero hbz)
      have HBZ := Lib.hid hbz
      clear hbz
      by_cases hA : 18014398509481984 ≤ a
      · have hA' := le54 hA
        have HC := Lib.hid hA
        clear hA
        obtain ⟨x, y, inv2, hE4, hvx, hvy⟩ := cel_even INV0.out HP.out he (Or.inr (Or.inl HC.out)) o HO.out HBE.out
        have INV := Lib.hid inv2
        have VX := Lib.hid hvx
        have VY := Lib.hid hvy
        clear inv2 hvx hvy ka kb
        cases mm
        all_goals
          go_wp2
          go_roundw
          case rel => exact ⟨x, y, _, _, _, _, rfl, rfl, INV.out, VX.out, VY.out, p.set _ _, hx.set2 (Nat.le_refl _) _ _⟩
          case measure => simp [intOf]; omega
      · have hA' := nle54 hA
        have HN := Lib.hid hA
        clear hA
        by_cases hEE : E < -1075
        · have HC := Lib.hid hEE
          obtain ⟨x, y, inv2, hE4, hvx, hvy⟩ := cel_even INV0.out HP.out he (Or.inr (Or.inr HC.out)) o HO.out HBE.out
          have INV := Lib.hid inv2
          have VX := Lib.hid hvx
          have VY := Lib.hid hvy
          clear inv2 hvx hvy ka kb
          cases mm
          all_goals
            go_wp2
            go_roundw
            case rel => exact ⟨x, y, _, _, _, _, rfl, rfl, INV.out, VX.out, VY.out, p.set _ _, hx.set2 (Nat.le_refl _) _ _⟩
            case measure => simp [intOf]; omega
        · have ST := Lib.hid (INV0.out.stop HBZ.out (Nat.lt_of_not_le HN.out) (Int.not_lt.1 hEE))
          have hqb := half_bd HN.out
          have LO := Lib.hid (Int.not_lt.1 hEE)
          obtain ⟨q, hq⟩ : ∃ q : Nat, q = a / 2 := ⟨_, rfl⟩
          have eq2 : (a : Int) / 2 = (q : Int) := by rw [hq]; rfl
          have QB : q < 9007199254740992 := by rw [hq]; exact hqb
          have qi := int_bd QB
          have q0 := nat_low q
          have HQB := Lib.hid QB
          have HQ := Lib.hid hq
          clear QB hqb hq oa ob
          cases o
          · have oa2 := odd_test false HO.out
            have hm := inc_no a mm (Or.inl (by have := beq_eq_false_iff_ne.1 HO.out; omega))
            have HM := Lib.hid (hm.trans HQ.out.symm)
            clear hm
            by_cases k : 971 < E + 1
            · have WI := Lib.hid (way_inf RES.out ST.out HM.out HQB.out k)
              go_wp2_with (first | ((with_reducible refine (WI.out _).mono ?_); rintro e w1 ⟨rfl, rfl⟩))
              go_ret
              exact ⟨rfl, hx⟩
            · by_cases d : q < 4503599627370496
              · have WS := Lib.hid (way_sub RES.out ST.out HM.out (q : Int) rfl d (Int.not_lt.1 k))
                have dI := int_lo d
                clear d
                go_wp2_with (first | ((with_reducible refine (WS.out _).mono ?_); rintro e w1 ⟨rfl, rfl⟩))
                go_ret
                exact ⟨rfl, hx⟩
              · have WN := Lib.hid (way_norm RES.out ST.out HM.out (q : Int) rfl HQB.out d (Int.not_lt.1 k) LO.out)
                have dI := int_hi d
                clear d
                go_wp2_with (first | ((with_reducible refine (WN.out _).mono ?_); rintro e w1 ⟨rfl, rfl⟩))
                go_ret
                exact ⟨rfl, hx⟩
          · have oa2 := odd_test true HO.out
            cases mm
            · by_cases hq2 : q % 2 = 1
              · have oq := odd_test (a := q) true (by rw [hq2]; rfl)
                have hm := inc_yes a false (beq_iff_eq.1 HO.out) (Or.inr (by rw [← HQ.out]; exact hq2))
                have HM := Lib.hid (hm.trans (congrArg (· + 1) HQ.out.symm))
                clear hm hq2
                by_cases hc : q + 1 = 9007199254740992
                · have hci := carry_yes hc
                  have HM2 := Lib.hid (HM.out.trans hc)
                  clear hc HM qi
                  by_cases k : 971 < E + 1 + 1
                  · have WI := Lib.hid (way_cinf RES.out ST.out HM2.out k)
                    go_wp2_with (first | ((with_reducible refine (WI.out _).mono ?_); rintro e w1 ⟨rfl, rfl⟩))
                    go_ret
                    exact ⟨rfl, hx⟩
                  · have WN := Lib.hid (way_cnorm RES.out ST.out HM2.out (Int.not_lt.1 k) LO.out)
                    go_wp2_with (first | ((with_reducible refine (WN.out _).mono ?_); rintro e w1 ⟨rfl, rfl⟩))
                    go_ret
                    exact ⟨rfl, hx⟩
                · have CN := Lib.hid (carry_no HQB.out hc)
                  have cni := CN.out.2
                  clear hc
                  by_cases k : 971 < E + 1
                  · have WI := Lib.hid (way_inf RES.out ST.out HM.out CN.out.1 k)
                    go_wp2_with (first | ((with_reducible refine (WI.out _).mono ?_); rintro e w1 ⟨rfl, rfl⟩))
                    go_ret
                    exact ⟨rfl, hx⟩
                  · by_cases d : q + 1 < 4503599627370496
                    · have WS := Lib.hid (way_sub RES.out ST.out HM.out ((q : Int) + 1) (Int.natCast_add q 1) d (Int.not_lt.1 k))
                      have dI := int_lo1 d
                      clear d
                      go_wp2_with (first | ((with_reducible refine (WS.out _).mono ?_); rintro e w1 ⟨rfl, rfl⟩))
                      go_ret
                      exact ⟨rfl, hx⟩
                    · have WN := Lib.hid (way_norm RES.out ST.out HM.out ((q : Int) + 1) (Int.natCast_add q 1) CN.out.1 d (Int.not_lt.1 k) LO.out)
                      have dI := int_hi1 d
                      clear d
                      go_wp2_with (first | ((with_reducible refine (WN.out _).mono ?_); rintro e w1 ⟨rfl, rfl⟩))
                      go_ret
                      exact ⟨rfl, hx⟩
              · have oq := odd_test (a := q) false (beq_eq_false_iff_ne.2 hq2)
                have hm := inc_no a false (Or.inr ⟨rfl, by rw [← HQ.out]; omega⟩)
                have HM := Lib.hid (hm.trans HQ.out.symm)
                clear hm hq2
                by_cases k : 971 < E + 1
                · have WI := Lib.hid (way_inf RES.out ST.out HM.out HQB.out k)
                  go_wp2_with (first | ((with_reducible refine (WI.out _).mono ?_); rintro e w1 ⟨rfl, rfl⟩))
                  go_ret
                  exact ⟨rfl, hx⟩
                · by_cases d : q < 4503599627370496
                  · have WS := Lib.hid (way_sub RES.out ST.out HM.out (q : Int) rfl d (Int.not_lt.1 k))
                    have dI := int_lo d
                    clear d
                    go_wp2_with (first | ((with_reducible refine (WS.out _).mono ?_); rintro e w1 ⟨rfl, rfl⟩))
                    go_ret
                    exact ⟨rfl, hx⟩
                  · have WN := Lib.hid (way_norm RES.out ST.out HM.out (q : Int) rfl HQB.out d (Int.not_lt.1 k) LO.out)
                    have dI := int_hi d
                    clear d
                    go_wp2_with (first | ((with_reducible refine (WN.out _).mono ?_); rintro e w1 ⟨rfl, rfl⟩))
                    go_ret
                    exact ⟨rfl, hx⟩
            · have hm := inc_yes a true (beq_iff_eq.1 HO.out) (Or.inl rfl)
              have HM := Lib.hid (hm.trans (congrArg (· + 1) HQ.out.symm))
              clear hm
              by_cases hc : q + 1 = 9007199254740992
              · have hci := carry_yes hc
                have HM2 := Lib.hid (HM.out.trans hc)
                clear hc HM qi
                by_cases k : 971 < E + 1 + 1
                · have WI := Lib.hid (way_cinf RES.out ST.out HM2.out k)
                  go_wp2_with (first | ((with_reducible refine (WI.out _).mono ?_); rintro e w1 ⟨rfl, rfl⟩))
                  go_ret
                  exact ⟨rfl, hx⟩
                · have WN := Lib.hid (way_cnorm RES.out ST.out HM2.out (Int.not_lt.1 k) LO.out)
                  go_wp2_with (first | ((with_reducible refine (WN.out _).mono ?_); rintro e w1 ⟨rfl, rfl⟩))
                  go_ret
                  exact ⟨rfl, hx⟩
              · have CN := Lib.hid (carry_no HQB.out hc)
                have cni := CN.out.2
                clear hc
                by_cases k : 971 < E + 1
                · have WI := Lib.hid (way_inf RES.out ST.out HM.out CN.out.1 k)
                  go_wp2_with (first | ((with_reducible refine (WI.out _).mono ?_); rintro e w1 ⟨rfl, rfl⟩))
                  go_ret
                  exact ⟨rfl, hx⟩
                · by_cases d : q + 1 < 4503599627370496
                  · have WS := Lib.hid (way_sub RES.out ST.out HM.out ((q : Int) + 1) (Int.natCast_add q 1) d (Int.not_lt.1 k))
                    have dI := int_lo1 d
                    clear d
                    go_wp2_with (first | ((with_reducible refine (WS.out _).mono ?_); rintro e w1 ⟨rfl, rfl⟩))
                    go_ret
                    exact ⟨rfl, hx⟩
                  · have WN := Lib.hid (way_norm RES.out ST.out HM.out ((q : Int) + 1) (Int.natCast_add q 1) CN.out.1 d (Int.not_lt.1 k) LO.out)
                    have dI := int_hi1 d
                    clear d
                    go_wp2_with (first | ((with_reducible refine (WN.out _).mono ?_); rintro e w1 ⟨rfl, rfl⟩))
                    go_ret
                    exact ⟨rfl, hx⟩
    · have zb := kb.zero true (bne_iff_ne.2 hbz)
      have HC := Lib.hid hbz
      clear hbz
      rcases (show b % 2 = 0 ∨ b % 2 = 1 from Nat.mod_two_eq_zero_or_one b) with hbe | hbe
      · have ob := kb.odd false (by rw [hbe]; rfl)
        have HBE := Lib.hid hbe
        clear hbe
        obtain ⟨x, y, inv2, hE4, hvx, hvy⟩ := cel_even INV0.out HP.out he (Or.inl HC.out) o HO.out HBE.out
        have INV := Lib.hid inv2
        have VX := Lib.hid hvx
        have VY := Lib.hid hvy
        clear inv2 hvx hvy ka kb
        cases mm
        all_goals
          go_wp2
          go_roundw
          case rel => exact ⟨x, y, _, _, _, _, rfl, rfl, INV.out, VX.out, VY.out, p.set _ _, hx.set2 (Nat.le_refl _) _ _⟩
          case measure => simp [intOf]; omega
      · have ob := kb.odd true (by rw [hbe]; rfl)
        have HBE := Lib.hid hbe
        clear hbe
        obtain ⟨x, y, inv2, hE4, hvx, hvy⟩ := cel_odd INV0.out HP.out he (Or.inl HC.out) o HO.out HBE.out
        have INV := Lib.hid inv2
        have VX := Lib.hid hvx
        have VY := Lib.hid hvy
        clear inv2 hvx hvy ka kb
        cases mm
        all_goals
          go_wp2
          go_roundw
          case rel => exact ⟨x, y, _, _, _, _, rfl, rfl, INV.out, VX.out, VY.out, p.set _ _, hx.set2 (Nat.le_refl _) _ _⟩
          case measure => simp [intOf]; omega
end Go.Proofs.YtegcecpmdgljpaaGreatDoor

namespace Go.Proofs.YtegcecpmdgljpaaGreatDoor
open Go.RowKit
set_option linter.unusedVariables false
open Ieee (double)

/-- The cells l and h are the pair P. -/
structure Par (l h : Int) (P : Nat) : Prop where
  lt : P < 42535295865117307932921825928971026432
  lo : l = lo (P : Int)
  hi : h = hi (P : Int)
theorem par_lo (P : Nat) (h : P < 42535295865117307932921825928971026432) : Cel (lo (P : Int)) (P % 18446744073709551616) := by
  refine ⟨by omega, ?_⟩
  unfold lo wrap64
  omega
theorem par_hi (P : Nat) (h : P < 42535295865117307932921825928971026432) : hi (P : Int) = ((P / 18446744073709551616 : Nat) : Int) ∧ P / 18446744073709551616 < 2305843009213693952 := by
  unfold hi wrap64
  omega
theorem Par.cells {l h : Int} {P : Nat} (p : Par l h P) : Cel l (P % 18446744073709551616) ∧ Cel h (P / 18446744073709551616) := by
  obtain ⟨e, k⟩ := par_hi P p.lt
  refine ⟨by rw [p.lo]; exact par_lo P p.lt, by omega, ?_⟩
  rw [p.hi, e]
  exact (IntWalk.wrap64_in _ ⟨by omega, by omega⟩).symm
theorem Par.top {l h : Int} {P : Nat} (p : Par l h P) : 0 ≤ h ∧ h < 2305843009213693952 ∧ IntKind.u64.wrap h = h ∧ (h < 1152921504606846976 ↔ P < 21267647932558653966460912964485513216) := by
  obtain ⟨e, k⟩ := par_hi P p.lt
  have q : h = ((P / 18446744073709551616 : Nat) : Int) := by rw [p.hi, e]
  refine ⟨by omega, by omega, ?_, ?_⟩
  · rw [IntKind.wrap_u64]; omega
  · rw [q]; omega
theorem Par.some {l h : Int} {P : Nat} (p : Par l h P) (h0 : P ≠ 0) : (l == 0 && h == 0) = false := by
  obtain ⟨c, d⟩ := p.cells
  rw [Bool.and_eq_false_iff, beq_eq_false_iff_ne, beq_eq_false_iff_ne]
  by_cases k : P % 18446744073709551616 = 0
  · right
    rw [d.is]
    intro z
    have := (wrap_nil _ d.lt).1 z
    omega
  · left
    rw [c.is]
    intro z
    exact k ((wrap_nil _ c.lt).1 z)
theorem Par.twice {l h : Int} {P : Nat} (p : Par l h P) (k : P < 21267647932558653966460912964485513216) : Par (Go.Proofs.YtegcecpmdgljpaaGreatDoor.lo (2 * (P : Int))) (Go.Proofs.YtegcecpmdgljpaaGreatDoor.hi (2 * (P : Int))) (2 * P) := by
  refine ⟨by omega, ?_, ?_⟩
  · rw [Int.natCast_mul]; rfl
  · rw [Int.natCast_mul]; rfl
theorem up_to (m j : Nat) (h0 : m ≠ 0) (h : m ≤ 9007199254740992) : (m * 2 ^ j < 21267647932558653966460912964485513216 ↔ j < 124 - m.log2) ∧ (j ≤ 124 - m.log2 → m * 2 ^ j < 42535295865117307932921825928971026432) := by
  have hl : m.log2 < 54 := (Nat.log2_lt h0).2 (by omega)
  have a : (2 : Nat) ^ 124 = 21267647932558653966460912964485513216 := by decide +kernel
  have b : (2 : Nat) ^ 125 = 42535295865117307932921825928971026432 := by decide +kernel
  have hm : m * 2 ^ j ≠ 0 := Nat.mul_ne_zero h0 (pow_ne j)
  rw [← a, ← b, ← Nat.log2_lt hm, ← Nat.log2_lt hm, log2_mul_pow m j h0]
  omega
/-- The last step of making a number great. -/
def topJ (m : Nat) : Nat := 124 - m.log2
def topF (m : Nat) (e0 : Int) : Nat × Int × Bool := cutF (m * 2 ^ topJ m + (-1075 - (e0 - (topJ m : Int))).toNat) (m * 2 ^ topJ m) (e0 - (topJ m : Int)) false
theorem top_inv (m : Nat) (h0 : m ≠ 0) (h : m ≤ 9007199254740992) (e0 : Int) (he : -10000 ≤ e0 ∧ e0 ≤ 10000) : CutInv (e0 - (topJ m : Int)) (m * 2 ^ topJ m) (topF m e0) (m * 2 ^ topJ m % 18446744073709551616) (m * 2 ^ topJ m / 18446744073709551616) (e0 - (topJ m : Int)) false ∧ m * 2 ^ topJ m < 2 ^ 128 := by
  have k := (up_to m (topJ m) h0 h).2 (Nat.le_refl _)
  have hj : topJ m ≤ 124 := by unfold topJ; omega
  have e : m * 2 ^ topJ m % 18446744073709551616 + 18446744073709551616 * (m * 2 ^ topJ m / 18446744073709551616) = m * 2 ^ topJ m := Nat.mod_add_div _ _
  have b : (2 : Nat) ^ 128 = 340282366920938463463374607431768211456 := by decide +kernel
  refine ⟨⟨Nat.mod_lt _ (by decide), by omega, Int.le_refl _, by omega, ?_, ?_⟩, by rw [b]; omega⟩
  · rw [e, Int.sub_self, Int.toNat_zero, Nat.pow_zero, Nat.mul_one]
    exact Nat.le_refl _
  · rw [e]
    exact ⟨_, rfl, Nat.le_refl _⟩
theorem par_twice {l h : Int} {P : Nat} (p : Par l h P) (k : P < 21267647932558653966460912964485513216) : ∃ l' h', Par l' h' (2 * P) ∧ ∀ W, Calls Tryz.prog 78 #[.agg #[.int .i64 l, .int .i64 h]] W fun e w' => e = .returned (.agg #[.int .i64 l', .int .i64 h']) ∧ Ext W w' :=
  ⟨_, _, p.twice k, fun W => by rw [p.lo, p.hi]; exact rtwice_mk _ W⟩
/-- What holds at each step of making a number great. -/
structure Up (m : Nat) (j : Nat) (l h : Int) : Prop where
  le : j ≤ topJ m
  par : Par l h (m * 2 ^ j)
theorem Up.go {m j : Nat} {l h : Int} (u : Up m j l h) (h0 : m ≠ 0) (hm : m ≤ 9007199254740992) (hj : j < topJ m) : (h < 1152921504606846976) ∧ ∃ l' h', Up m (j + 1) l' h' ∧ ∀ W, Calls Tryz.prog 78 #[.agg #[.int .i64 l, .int .i64 h]] W fun e w' => e = .returned (.agg #[.int .i64 l', .int .i64 h']) ∧ Ext W w' := by
  have k := (up_to m j h0 hm).1.2 hj
  obtain ⟨l', h', q, c⟩ := par_twice u.par k
  refine ⟨u.par.top.2.2.2.2 k, l', h', ⟨by omega, ?_⟩, c⟩
  rw [Nat.pow_succ, ← Nat.mul_assoc, Nat.mul_comm _ 2]
  exact q
theorem Up.stop {m j : Nat} {l h : Int} (u : Up m j l h) (h0 : m ≠ 0) (hm : m ≤ 9007199254740992) (hj : ¬ j < topJ m) : ¬ (h < 1152921504606846976) ∧ j = topJ m := by
  have e : j = topJ m := by have := u.le; omega
  refine ⟨fun k => ?_, e⟩
  have := (up_to m j h0 hm).1.1 (u.par.top.2.2.2.1 k)
  unfold topJ at hj
  exact hj this
theorem Up.nz {m j : Nat} {l h : Int} (u : Up m j l h) (h0 : m ≠ 0) : (l == 0 && h == 0) = false := u.par.some (Nat.mul_ne_zero h0 (pow_ne j))
theorem top_cut (s : Bool) (m : Nat) (h0 : m ≠ 0) (hm : m ≤ 9007199254740992) (e0 : Int) (he : -10000 ≤ e0 ∧ e0 ≤ 10000) {l h : Int} (u : Up m (topJ m) l h) (w : World) :
    Calls Tryz.prog 184 #[.bool s, .agg #[.int .i64 l, .int .i64 h], .int .i64 (e0 - (topJ m : Int)), .bool false] w fun e w' => e = .returned (.int .i64 (cellOf (cutR s (topF m e0)))) ∧ Ext w w' := by
  obtain ⟨k1, k2⟩ := top_inv m h0 hm e0 he
  obtain ⟨c1, c2⟩ := u.par.cells
  have hj : topJ m ≤ 124 := by unfold topJ; omega
  exact rcut4 s l h _ _ c1 c2 _ false _ k2 (by omega) _ k1 (u.nz h0) (by omega) w
set_option maxHeartbeats 4000000 in
set_option maxRecDepth 100000 in
theorem rrounded (s : Bool) (m : Nat) (h0 : m ≠ 0) (hm : m ≤ 9007199254740992) (e0 : Int) (he : -10000 ≤ e0 ∧ e0 ≤ 10000) (l0 h1 : Int) (hp : Par l0 h1 m) (w : World) :
    Calls Tryz.prog 82 #[.bool s, .agg #[.int .i64 l0, .int .i64 h1], .int .i64 e0, .bool false] w fun e w' => e = .returned (.int .i64 (cellOf (cutR s (topF m e0)))) ∧ Ext w w' := by
  have u0 : Up m 0 l0 h1 := ⟨Nat.zero_le _, by rw [Nat.pow_zero, Nat.mul_one]; exact hp⟩
  have TC := Lib.hid (fun l h u => top_cut s m h0 hm e0 he (l := l) (h := h) u)
  have H0 := Lib.hid h0
  have HM := Lib.hid hm
  have hj : topJ m ≤ 124 := by unfold topJ; omega
  obtain ⟨J, hJ⟩ : ∃ J, J = topJ m := ⟨_, rfl⟩
  rw [← hJ] at TC hj
  have HJ := Lib.hid hJ
  generalize cellOf (cutR s (topF m e0)) = res at *
  obtain ⟨he1, he2⟩ := he
  clear hp h0 hm hJ
  go_enter Tryz.func82, Tryz.ntmps82
  go_wp2
  have o0 : Own (w.alloc (.cells #[Value.int .i64 l0, Value.int .i64 h1] 44)) w.heap.size (.int .i64 l0) (.int .i64 h1) := Own.last
  have hE : Ext w (w.alloc (.cells #[Value.int .i64 l0, Value.int .i64 h1] 44)) := (Ext.refl w).cells _ _
  go_loopw [2] (fun e wr => ∃ (j : Nat) (l h : Int), e = .int .i64 (e0 - (j : Int)) ∧ j ≤ J ∧ Up m j l h ∧ Own wr w.heap.size (.int .i64 l) (.int .i64 h) ∧ Ext w wr) (fun e _ => (intOf e + 20000).toNat)
  case atStart => exact ⟨0, l0, h1, by simp, Nat.zero_le _, u0, o0, hE⟩
  case round =>
    obtain ⟨j, l, h, rfl, hjJ, u, p, hx⟩ := hrel
    clear o0 hE u0
    have nz := u.nz H0.out
    obtain ⟨t0, t1, t2, _⟩ := u.par.top
    have c0 := p.c0
    have c1 := p.c1
    have f0 := p.f0
    have f1 := p.f1
    have lt := p.lt
    have j0 := nat_low j
    have j1 : (j : Int) ≤ 124 := by omega
    by_cases hc : j < J
    · obtain ⟨hlt, l', h', u', ht⟩ := u.go H0.out HM.out (by rw [← HJ.out]; exact hc)
      have HT := Lib.hid ht
      have U' := Lib.hid u'
      have HC := Lib.hid hc
      clear ht u' u hc
      go_wp2_with fail
      refine (HT.out _).mono ?_
      rintro e w' ⟨rfl, hx1⟩
      have p1 := p.ext hx1
      have hx2 := hx.trans hx1
      clear c0 c1 f0 f1 lt p hx hx1
      have c0 := p1.c0
      have c1 := p1.c1
      have f0 := p1.f0
      have f1 := p1.f1
      have lt := p1.lt
      go_wp2_with fail
      go_roundw
      case rel => exact ⟨j + 1, l', h', v_i64 (by omega), HC.out, U'.out, p1.set _ _, hx2.set2 (Nat.le_refl _) _ _⟩
      case measure => simp [intOf]; omega
    · obtain ⟨hge, ej⟩ := u.stop H0.out HM.out (by rw [← HJ.out]; exact hc)
      rw [← HJ.out] at ej
      subst ej
      have TC2 := Lib.hid (TC.out l h u)
      clear hc u TC
      go_wp2_with fail
      refine (TC2.out _).mono ?_
      rintro e w' ⟨rfl, hx1⟩
      go_wp2_with fail
      go_ret
      exact ⟨rfl, hx.trans hx1⟩
end Go.Proofs.YtegcecpmdgljpaaGreatDoor

namespace Go.Proofs.YtegcecpmdgljpaaGreatDoor
open Go.RowKit
set_option linter.unusedVariables false
open Ieee (double)

theorem fbits_wrap (f : Int) : IntKind.u64.wrap f = (fbits f : Int) := by unfold fbits; rw [IntKind.wrap_u64]; omega
theorem sign_word (f : Int) (hf : I64 f) (s : Bool) (r : Nat) (h : r < 9223372036854775808) (hx : fbits f = double.word s r) : decide (f < 0) = s := by
  have e := fbits_wrap f
  rw [hx, word_d, IntKind.wrap_u64] at e
  unfold I64 at hf
  cases s
  · apply decide_eq_false; simp at e; omega
  · apply decide_eq_true; simp at e; omega
theorem frac_word (s : Bool) (r : Nat) (h : r < 9223372036854775808) : ((double.word s r : Nat) : Int) % 4503599627370496 = ((r % 4503599627370496 : Nat) : Int) ∧ ((double.word s r : Nat) : Int) / 4503599627370496 % 2048 = ((r / 4503599627370496 : Nat) : Int) := by
  rw [word_d]
  cases s <;> simp <;> omega
/-- What a finite cell is. -/
theorem ropen_word (f : Int) (hf : I64 f) (s : Bool) (r : Nat) (hx : fbits f = double.word s r) (h : r < 9218868437227405312) (w : World) :
    Calls Tryz.prog 58 #[.int .i64 f] w fun e w' => e = .returned (.agg #[.int .i64 2, .bool s, .int .u64 (rM r : Int), .int .i64 (rE r)]) ∧ Ext w w' := by
  obtain ⟨e1, e2⟩ := frac_word s r (by omega)
  have hs := sign_word f hf s r (by omega) hx
  have ex := fbits_wrap f
  have hl := fbits_lt f
  rw [hx] at ex hl
  by_cases c : r < 4503599627370496
  · have k := ropen_sub f _ (r % 4503599627370496) s hs ex e1 (by rw [e2]; omega) (Nat.mod_lt _ (by decide)) hl w
    have m1 : rM r = r := by unfold rM; rw [if_pos c]
    have m2 : rE r = -1074 := by unfold rE; rw [if_pos c]
    rw [Nat.mod_eq_of_lt c] at k
    rw [m1, m2]
    exact k
  · have k := ropen_fin f _ (r % 4503599627370496) (r / 4503599627370496) s hs ex e1 e2 (Nat.mod_lt _ (by decide)) (by omega) (by omega) hl w
    have m1 : ((rM r : Nat) : Int) = ((r % 4503599627370496 : Nat) : Int) + 4503599627370496 := by unfold rM; rw [if_neg c]; omega
    have m2 : rE r = ((r / 4503599627370496 : Nat) : Int) - 1075 := by unfold rE; rw [if_neg c]
    rw [m1, m2]
    exact k
theorem ropen_winf (f : Int) (hf : I64 f) (s : Bool) (hx : fbits f = double.word s 9218868437227405312) (w : World) :
    Calls Tryz.prog 58 #[.int .i64 f] w fun e w' => e = .returned (.agg #[.int .i64 1, .bool s, .int .u64 0, .int .i64 0]) ∧ Ext w w' := by
  obtain ⟨e1, e2⟩ := frac_word s 9218868437227405312 (by decide)
  have hs := sign_word f hf s _ (by decide) hx
  have ex := fbits_wrap f
  have hl := fbits_lt f
  rw [hx] at ex hl
  exact ropen_inf f _ s hs ex (by rw [e1]; decide) (by rw [e2]; decide) hl w
theorem ropen_wnan (f : Int) (hf : I64 f) (h : isN (fbits f) = true) : ∃ (s : Bool) (m : Int), ∀ w, Calls Tryz.prog 58 #[.int .i64 f] w fun e w' => e = .returned (.agg #[.int .i64 0, .bool s, .int .u64 m, .int .i64 0]) ∧ Ext w w' := by
  have hl := fbits_lt f
  have hw := word_split (fbits f) hl
  have hr : fbits f % 9223372036854775808 < 9223372036854775808 := Nat.mod_lt _ (by decide)
  have hr2 : 9218868437227405312 < fbits f % 9223372036854775808 := by
    apply Nat.lt_of_not_le
    intro q
    rw [hw, isN_word _ q] at h
    cases h
  generalize decide (9223372036854775808 ≤ fbits f) = s at *
  generalize hrr : fbits f % 9223372036854775808 = r at *
  obtain ⟨e1, e2⟩ := frac_word s r hr
  have hs := sign_word f hf s r hr hw
  have ex := fbits_wrap f
  rw [hw] at ex hl
  refine ⟨s, _, fun w => ropen_nan f _ (r % 4503599627370496) s hs ex e1 (by rw [e2]; omega) (by rw [bne_iff_ne]; omega) hl w⟩
/-- Block b of w holds four cells; the last two may be written. -/
structure Own4 (w : World) (b : Nat) (k n m e : Value) : Prop where
  c0 : w.cell? ⟨b, 0, none⟩ = some k
  c1 : w.cell? ⟨b, 1, none⟩ = some n
  c2 : w.cell? ⟨b, 2, none⟩ = some m
  c3 : w.cell? ⟨b, 3, none⟩ = some e
  f2 : w.frozen? ⟨b, 2, none⟩ = false
  f3 : w.frozen? ⟨b, 3, none⟩ = false
  lt : b < w.heap.size
theorem Own4.ext {w w' : World} {b : Nat} {k n m e : Value} (h : Own4 w b k n m e) (x : Ext w w') : Own4 w' b k n m e :=
  ⟨ext_keeps x h.c0, ext_keeps x h.c1, ext_keeps x h.c2, ext_keeps x h.c3, (x.2 _).trans h.f2, (x.2 _).trans h.f3, Nat.lt_of_lt_of_le h.lt x.1.size⟩
theorem Own4.last {X : World} {k n m e : Value} {t : TypeId} : Own4 (X.alloc (.cells #[k, n, m, e] t)) X.heap.size k n m e := by
  have hb : (X.alloc (.cells #[k, n, m, e] t)).heap[X.heap.size]? = some (.cells #[k, n, m, e] t) := (MapKept.heap_alloc X _).1
  have hlt : X.heap.size < (X.alloc (.cells #[k, n, m, e] t)).heap.size := by show X.heap.size < (X.heap.push _).size; simp
  refine ⟨?_, ?_, ?_, ?_, ?_, ?_, hlt⟩
  · simp only [World.cell?, hb]; rfl
  · simp only [World.cell?, hb]; rfl
  · simp only [World.cell?, hb]; rfl
  · simp only [World.cell?, hb]; rfl
  · simp only [World.frozen?, hb]; rfl
  · simp only [World.frozen?, hb]; rfl
theorem Own4.set {w : World} {b : Nat} {k n m e : Value} (h : Own4 w b k n m e) (u v : Value) : Own4 ((w.setCell ⟨b, 2, none⟩ u).setCell ⟨b, 3, none⟩ v) b k n u v := by
  have hne : ∀ i j : Nat, i ≠ j → (⟨b, i, none⟩ : Addr) ≠ ⟨b, j, none⟩ := fun i j hij q => hij (by injection q)
  refine ⟨?_, ?_, ?_, ?_, ?_, ?_, ?_⟩
  · rw [World.cell?_setCell_other (h := hne 3 0 (by decide)), World.cell?_setCell_other (h := hne 2 0 (by decide))]; exact h.c0
  · rw [World.cell?_setCell_other (h := hne 3 1 (by decide)), World.cell?_setCell_other (h := hne 2 1 (by decide))]; exact h.c1
  · rw [World.cell?_setCell_other (h := hne 3 2 (by decide))]; exact World.cell?_setCell_same _ _ _ (h := h.c2)
  · refine World.cell?_setCell_same _ _ _ (u := e) (h := ?_)
    rw [World.cell?_setCell_other (h := hne 2 3 (by decide))]; exact h.c3
  · rw [World.frozen?_setCell, World.frozen?_setCell]; exact h.f2
  · rw [World.frozen?_setCell, World.frozen?_setCell]; exact h.f3
  · simpa [World.setCell] using h.lt
theorem Ext.set4 {a b : World} (h : Ext a b) {n : Nat} (hn : a.heap.size ≤ n) (u v : Value) : Ext a ((b.setCell ⟨n, 2, none⟩ u).setCell ⟨n, 3, none⟩ v) := (h.setCell hn u).setCell hn v
end Go.Proofs.YtegcecpmdgljpaaGreatDoor
