/- Decimal digits: what is written is read again. No condition. -/
import Derived.Test.YthmdobajilladaaDoorNumT
namespace Go.Proofs.YthmdobajilladaaDoor
set_option linter.unusedVariables false

theorem nd_pow : ∀ (k u : Nat), u < 10 ^ (k + 1) → Lib.nDigits u ≤ k + 1
  | 0, u, h => by
    unfold Lib.nDigits
    rw [dif_pos (by simpa using h)]
    exact Nat.le_refl _
  | k + 1, u, h => by
    unfold Lib.nDigits
    by_cases c : u < 10
    · rw [dif_pos c]; omega
    · rw [dif_neg c]
      have : u / 10 < 10 ^ (k + 1) := by
        rw [Nat.div_lt_iff_lt_mul (by decide)]
        rw [Nat.pow_succ] at h
        exact h
      have := nd_pow k (u / 10) this
      omega
theorem dig_nat (n : Nat) (h : n < 10) : (UInt8.ofNat (48 + n)).toNat = 48 + n := by
  rw [UInt8.toNat_ofNat']
  omega
theorem dec_all (u : Nat) : (Lib.decDigits u).all isDig = true := by
  induction u using Nat.strongRecOn with
  | _ u ih =>
    unfold Lib.decDigits
    by_cases c : u < 10
    · rw [dif_pos c]
      simp only [List.all_cons, List.all_nil, Bool.and_true]
      unfold isDig
      rw [dig_nat u c]
      exact decide_eq_true (by omega)
    · rw [dif_neg c, List.all_append, ih (u / 10) (by omega)]
      simp only [List.all_cons, List.all_nil, Bool.and_true, Bool.true_and]
      unfold isDig
      rw [dig_nat (u % 10) (by omega)]
      exact decide_eq_true (by omega)
theorem dec_val (u : Nat) : dval (Lib.decDigits u) = u := by
  induction u using Nat.strongRecOn with
  | _ u ih =>
    unfold Lib.decDigits
    by_cases c : u < 10
    · rw [dif_pos c]
      unfold dval
      simp only [List.foldl_cons, List.foldl_nil]
      rw [dig_nat u c]; omega
    · rw [dif_neg c]
      have k := ih (u / 10) (by omega)
      unfold dval at k ⊢
      rw [List.foldl_append, k]
      simp only [List.foldl_cons, List.foldl_nil]
      rw [dig_nat (u % 10) (by omega)]; omega
theorem dec_ne (u : Nat) : Lib.decDigits u ≠ [] := by
  intro h
  have := Lib.decDigits_length u
  rw [h] at this
  have p : 0 < Lib.nDigits u := by unfold Lib.nDigits; split <;> omega
  simp at this
  omega
theorem digs_dec (u k : Nat) (h : u < 10 ^ (k + 1)) : digs (Lib.decDigits u) (k + 1) = some u := by
  unfold digs
  rw [if_pos ⟨dec_ne u, by rw [Lib.decDigits_length]; exact nd_pow k u h, dec_all u⟩, dec_val]
theorem dig_no (c b : UInt8) (h : isDig c = true) (hb : isDig b = false) : c ≠ b := by
  intro q; rw [q, hb] at h; cases h
theorem spl_dec : ∀ (D I : List UInt8), D.all isDig = true → spl (D ++ 112 :: I) = (D, I)
  | [], I, _ => by rw [List.nil_append]; unfold spl; rw [if_pos rfl]
  | c :: D, I, h => by
    simp only [List.all_cons, Bool.and_eq_true] at h
    rw [List.cons_append]
    unfold spl
    rw [if_neg (dig_no c 112 h.1 (by decide)), spl_dec D I h.2]
theorem minus_dig (l I : List UInt8) (h : l.all isDig = true) (hn : l ≠ []) : isMinus (l ++ I) = false ∧ unMinus (l ++ I) = l ++ I := by
  cases l with
  | nil => exact absurd rfl hn
  | cons c l =>
    simp only [List.all_cons, Bool.and_eq_true] at h
    have e : isMinus (c :: l ++ I) = false := by
      unfold isMinus
      rw [List.cons_append, List.head?_cons]
      exact beq_eq_false_iff_ne.2 (fun q => dig_no c 45 h.1 (by decide) (Option.some.inj q))
    refine ⟨e, ?_⟩
    unfold unMinus
    rw [e]; rfl
theorem minus_itoa (e : Int) : isMinus (Lib.itoa e) = decide (e < 0) ∧ unMinus (Lib.itoa e) = Lib.decDigits e.natAbs := by
  unfold Lib.itoa
  by_cases h : e < 0
  · rw [if_pos h, decide_eq_true h]; exact ⟨rfl, rfl⟩
  · rw [if_neg h, decide_eq_false h]
    have k := minus_dig (Lib.decDigits e.toNat) [] (dec_all _) (dec_ne _)
    rw [List.append_nil] at k
    rw [show e.natAbs = e.toNat by omega]
    exact k
end Go.Proofs.YthmdobajilladaaDoor
