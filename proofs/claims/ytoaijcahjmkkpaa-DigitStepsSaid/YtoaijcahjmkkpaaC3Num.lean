/- Layer 3, plain: the number that a number's text is. -/
import Derived.Test.YtoaijcahjmkkpaaC3Both
namespace Go.Proofs.Ytoaijcahjmkkpaa
open Go.RowKit
set_option linter.unusedVariables false

theorem text_digit (B n : Nat) (h2 : 2 ≤ B) (h36 : B ≤ 36) (hn : n < two128) : ∀ c ∈ text B n, valueOf c B ≠ none :=
  (acc_whole B (text B n) 0).1 (by rw [acc_text B n h2 h36 hn])
theorem text_cons (B n : Nat) : ∃ c l, text B n = c :: l := by
  cases h : text B n with
  | nil => exact absurd h (text_ne B n)
  | cons c l => exact ⟨c, l, rfl⟩
theorem pre_digit (B : Nat) (c : UInt8) (l : List UInt8) (h : valueOf c B ≠ none) : pre B (c :: l) = (B, 0) := by
  unfold pre
  have key : ∀ x : UInt8, valueOf x B = none → ¬ ((c :: l).head? = some x) := by
    intro x hx e
    rw [List.head?_cons, Option.some.injEq] at e
    subst e
    exact h hx
  rw [if_neg (key 35 (by simp [valueOf, vdig])), if_neg (key 36 (by simp [valueOf, vdig])), if_neg (key 37 (by simp [valueOf, vdig]))]
theorem pre_minus (B : Nat) (l : List UInt8) : pre B (45 :: l) = (B, 0) := by
  unfold pre
  rw [if_neg (by simp), if_neg (by simp), if_neg (by simp)]
theorem minus_digit (B : Nat) (c : UInt8) (l : List UInt8) (h : valueOf c B ≠ none) : minus (c :: l) 0 = false := by
  unfold minus
  rw [List.getElem?_cons_zero]
  rw [beq_eq_false_iff_ne]
  intro e
  obtain rfl := Option.some.inj e
  exact h (by simp [valueOf, vdig])
theorem num_text (B n : Nat) (h2 : 2 ≤ B) (h36 : B ≤ 36) (hn : n < two128) : numOf B (text B n) = (lo (n : Int), 0, 1) := by
  obtain ⟨c, l, hc⟩ := text_cons B n
  have hv := text_digit B n h2 h36 hn c (by rw [hc]; simp)
  have ha := acc_text B n h2 h36 hn
  rw [num_is, hc, pre_digit B c l hv]
  simp only [minus_digit B c l hv, Bool.toNat_false, Nat.add_zero, List.drop_zero]
  rw [← hc, ha]
  unfold numEnd
  have h0 : (0 : Nat) ≠ (text B n).length := by rw [hc]; simp
  have hd : List.drop ((text B n).length - 0) (text B n) = [] := by simp
  have hb : ((0 : Nat) == (text B n).length) = false := by rw [beq_eq_false_iff_ne]; exact h0
  simp only
  rw [hd, hb]
  rfl
theorem acc_point (B n : Nat) (h2 : 2 ≤ B) (h36 : B ≤ 36) (hn : n < two128) : acc B 0 (text B n ++ [46]) = (n, 1) := by
  rw [acc_append, acc_text B n h2 h36 hn, if_pos rfl, acc_none (by simp [valueOf, vdig])]
  rfl
theorem end_point (m : Bool) (B n : Nat) : numEnd m (n, 1) (text B n ++ [46]) = (lo (if m then -(n : Int) else (n : Int)), hi (if m then -(n : Int) else (n : Int)), 2) := by
  obtain ⟨c, l, hc⟩ := text_cons B n
  unfold numEnd
  have hd : List.drop ((text B n ++ [46]).length - 1) (text B n ++ [46]) = [46] := by
    rw [List.length_append, List.length_singleton, Nat.add_sub_cancel, List.drop_left]
  have hb : ((1 : Nat) == (text B n ++ [46]).length) = false := by
    rw [beq_eq_false_iff_ne, hc, List.length_append, List.length_singleton, List.length_cons]; omega
  simp only
  rw [hd, hb]
  rfl
theorem num_point (B n : Nat) (h2 : 2 ≤ B) (h36 : B ≤ 36) (hn : n < two128) : numOf B (text B n ++ [46]) = (lo (n : Int), hi (n : Int), 2) := by
  obtain ⟨c, l, hc⟩ := text_cons B n
  have hv := text_digit B n h2 h36 hn c (by rw [hc]; simp)
  rw [num_is, hc, List.cons_append, pre_digit B c _ hv]
  simp only [minus_digit B c _ hv, Bool.toNat_false, Nat.add_zero, List.drop_zero]
  rw [← List.cons_append, ← hc, acc_point B n h2 h36 hn, end_point]
  rfl
theorem num_minus (B n : Nat) (h2 : 2 ≤ B) (h36 : B ≤ 36) (hn : n < two128) : numOf B (45 :: text B n ++ [46]) = (lo (-(n : Int)), hi (-(n : Int)), 2) := by
  rw [num_is, List.cons_append, pre_minus B]
  have hm : minus (45 :: (text B n ++ [46])) 0 = true := by unfold minus; rw [List.getElem?_cons_zero]; rfl
  simp only [hm, Bool.toNat_true, Nat.zero_add, List.drop_succ_cons, List.drop_zero]
  rw [acc_point B n h2 h36 hn, end_point]
  rfl
/-- The text of a pair with its sign and a point is the pair. -/
theorem num_signed (B P : Nat) (a c : Int) (ha : I64 a) (hc : I64 c) (hP : W a c = P) (h2 : 2 ≤ B) (h36 : B ≤ 36) : numOf B (signed B P (V a c) ++ [46]) = (a, c, 2) := by
  unfold signed
  by_cases hn : V a c < 0
  · rw [if_pos hn]
    obtain ⟨M, hM, hMl⟩ := neg_nat a c ha hc ((V_neg a c ha hc).1 hn)
    rw [hM, Int.toNat_natCast, num_minus B M h2 h36 hMl]
    have e : -(M : Int) = V a c := by omega
    rw [e, lo_V ha, hi_V hc]
  · rw [if_neg hn]
    obtain ⟨e1, e2, hl⟩ := W_at a c ha hc P hP
    rw [num_point B P h2 h36 hl, ← e1, ← e2]
theorem add_point (l : List UInt8) (h : l.length ≤ 1000000) (W : World) : (Op.stringOp .add (bytes l) ⟨#[46]⟩).run Try.prog W = .ok (.string (bytes (l ++ [46]))) W := by
  rw [show (⟨#[46]⟩ : ByteArray) = bytes [46] from rfl, run_string_add_sum W _ _ (by rw [bytes_size, bytes_size]; simp; omega), bytes_append]
theorem bytes_list (l : List UInt8) : (bytes l).data.toList = l := by simp [bytes]
theorem signed_length (B P : Nat) (a c : Int) (ha : I64 a) (hc : I64 c) (hP : W a c = P) (h2 : 2 ≤ B) : (signed B P (V a c)).length ≤ 129 := by
  unfold signed
  by_cases hn : V a c < 0
  · rw [if_pos hn]
    obtain ⟨M, hM, hMl⟩ := neg_nat a c ha hc ((V_neg a c ha hc).1 hn)
    rw [hM, Int.toNat_natCast, List.length_cons]
    have := text_length B M h2 hMl
    omega
  · rw [if_neg hn]
    have := text_length B P h2 (W_at a c ha hc P hP).2.2
    omega
theorem byte_base (c : UInt8) : ∃ B : Nat, ((c.toNat : Int) % 35 + 2) = (B : Int) ∧ 2 ≤ B ∧ B ≤ 36 := ⟨c.toNat % 35 + 2, by omega, by omega, by omega⟩
theorem head_byte (S : ByteArray) (l : List UInt8) (h : S.data.toList = l) (hs : 0 < S.size) (hne : l.head? ≠ some 48) : ((S[0].toNat : Int) == 48) = false := by
  rw [beq_eq_false_iff_ne]
  intro e
  have hz := head_at S hs
  rw [h] at hz
  refine hne ?_
  rw [hz, Option.some.injEq, ← UInt8.toNat_inj]
  have e3 : (48 : UInt8).toNat = 48 := rfl
  omega
end Go.Proofs.Ytoaijcahjmkkpaa
