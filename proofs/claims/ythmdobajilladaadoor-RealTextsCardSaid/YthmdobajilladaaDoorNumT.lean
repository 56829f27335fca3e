/- The form of a real number's text as plain functions on bytes. No condition. -/
import Derived.Lib.IndexMore
import Derived.Lib.ParseIntB
import Derived.Lib.ItoaNum
namespace Go.Proofs.YthmdobajilladaaDoor
set_option linter.unusedVariables false

/-- Ahead of the first 'p', and behind it. -/
def spl : List UInt8 → List UInt8 × List UInt8
  | [] => ([], [])
  | b :: l => if b = 112 then ([], l) else (b :: (spl l).1, (spl l).2)
theorem pre1 (b : UInt8) (l : List UInt8) : [112].isPrefixOf (b :: l) = (112 == b) := by simp [List.isPrefixOf]
theorem index_spl : ∀ L : List UInt8, (Lib.index L [112] = -1 ∧ spl L = (L, [])) ∨ (∃ i : Nat, Lib.index L [112] = i ∧ spl L = (L.take i, L.drop (i + 1)))
  | [] => Or.inl ⟨rfl, rfl⟩
  | b :: l => by
    by_cases h : b = 112
    · subst h
      refine Or.inr ⟨0, ?_, ?_⟩
      · unfold Lib.index; rw [pre1, if_pos (by decide)]; rfl
      · unfold spl; rw [if_pos rfl]; rfl
    · have hb : (112 == b) = false := beq_eq_false_iff_ne.2 (fun q => h q.symm)
      rcases index_spl l with ⟨e1, e2⟩ | ⟨i, e1, e2⟩
      · refine Or.inl ⟨?_, ?_⟩
        · unfold Lib.index; rw [pre1, hb, if_neg (by decide), e1]; rfl
        · unfold spl; rw [if_neg h, e2]
      · refine Or.inr ⟨i + 1, ?_, ?_⟩
        · unfold Lib.index
          rw [pre1, hb, if_neg (by decide), e1, if_neg (by simp <;> omega)]
          omega
        · unfold spl; rw [if_neg h, e2]; rfl
theorem cut_spl (L : List UInt8) : (Lib.cut L [112]).1 = (spl L).1 ∧ (Lib.cut L [112]).2.1 = (spl L).2 := by
  unfold Lib.cut
  rcases index_spl L with ⟨e1, e2⟩ | ⟨i, e1, e2⟩
  · rw [e1, e2, if_neg (by decide)]; exact ⟨rfl, rfl⟩
  · rw [e1, e2, if_pos (by omega)]; exact ⟨rfl, rfl⟩
def isMinus (L : List UInt8) : Bool := L.head? == some 45
def unMinus (L : List UInt8) : List UInt8 := if isMinus L then L.tail else L
theorem has_minus (L : List UInt8) : Lib.hasPrefix L [45] = isMinus L := by
  unfold Lib.hasPrefix isMinus
  cases L with
  | nil => rfl
  | cons b l =>
    simp only [List.isPrefixOf, List.head?_cons, Bool.and_true]
    rw [Bool.eq_iff_iff]
    simp
    exact ⟨fun h => h.symm, fun h => h.symm⟩
theorem trim_minus (L : List UInt8) : Lib.trimPrefix L [45] = unMinus L := by
  unfold Lib.trimPrefix unMinus
  rw [has_minus]
  cases L <;> rfl
def isDig (c : UInt8) : Bool := decide (48 ≤ c.toNat ∧ c.toNat ≤ 57)
def dval (l : List UInt8) : Nat := l.foldl (fun a c => a * 10 + (c.toNat - 48)) 0
/-- The value of decimal digits, one of them to k. -/
def digs (l : List UInt8) (k : Nat) : Option Nat := if l ≠ [] ∧ l.length ≤ k ∧ l.all isDig = true then some (dval l) else none
theorem dig_fold_bd : ∀ (l : List UInt8) (a : Nat), l.all isDig = true → l.foldl (fun a c => a * 10 + (c.toNat - 48)) a < (a + 1) * 10 ^ l.length
  | [], a, _ => by simp
  | c :: l, a, h => by
    simp only [List.all_cons, Bool.and_eq_true] at h
    have hc := of_decide_eq_true h.1
    have := dig_fold_bd l (a * 10 + (c.toNat - 48)) h.2
    simp only [List.foldl_cons, List.length_cons]
    refine Nat.lt_of_lt_of_le this ?_
    rw [Nat.pow_succ, Nat.mul_comm (10 ^ l.length) 10, ← Nat.mul_assoc]
    exact Nat.mul_le_mul_right _ (by omega)
theorem dval_bd {l : List UInt8} (h : l.all isDig = true) : dval l < 10 ^ l.length := by
  have := dig_fold_bd l 0 h
  unfold dval
  simpa using this
theorem parse_all : ∀ (l : List UInt8) (a : Nat), l.all isDig = true → (a + 1) * 10 ^ l.length ≤ 10 ^ 16 → Lib.parseUintM (2 ^ 64 - 1) a l = .ok (l.foldl (fun a c => a * 10 + (c.toNat - 48)) a)
  | [], a, _, _ => rfl
  | c :: l, a, h, hb => by
    simp only [List.all_cons, Bool.and_eq_true] at h
    have hc := of_decide_eq_true h.1
    have p : 1 ≤ 10 ^ l.length := Nat.pow_pos (by decide)
    rw [List.length_cons, Nat.pow_succ, Nat.mul_comm (10 ^ l.length) 10, ← Nat.mul_assoc] at hb
    have hb2 : (a + 1) * 10 * 1 ≤ (a + 1) * 10 * 10 ^ l.length := Nat.mul_le_mul_left _ p
    have e16 : (10 : Nat) ^ 16 = 10000000000000000 := by decide
    unfold Lib.parseUintM
    rw [if_pos hc, if_neg (by omega), if_neg (by have : (2 : Nat) ^ 64 - 1 = 18446744073709551615 := by decide
                                                 omega)]
    exact parse_all l _ h.2 (Nat.le_trans (Nat.mul_le_mul_right _ (by omega)) hb)
theorem parse_nor : ∀ (l : List UInt8) (a : Nat), (a + 1) * 10 ^ l.length ≤ 10 ^ 16 → Lib.parseUintM (2 ^ 64 - 1) a l ≠ .range
  | [], a, _ => by intro q; cases q
  | c :: l, a, hb => by
    have p : 1 ≤ 10 ^ l.length := Nat.pow_pos (by decide)
    rw [List.length_cons, Nat.pow_succ, Nat.mul_comm (10 ^ l.length) 10, ← Nat.mul_assoc] at hb
    have hb2 : (a + 1) * 10 * 1 ≤ (a + 1) * 10 * 10 ^ l.length := Nat.mul_le_mul_left _ p
    have e16 : (10 : Nat) ^ 16 = 10000000000000000 := by decide
    unfold Lib.parseUintM
    by_cases hc : 48 ≤ c.toNat ∧ c.toNat ≤ 57
    · rw [if_pos hc, if_neg (by omega), if_neg (by have : (2 : Nat) ^ 64 - 1 = 18446744073709551615 := by decide
                                                   omega)]
      exact parse_nor l _ (Nat.le_trans (Nat.mul_le_mul_right _ (by omega)) hb)
    · rw [if_neg hc]; intro q; cases q
theorem parse_norange {l : List UInt8} (h : l.length ≤ 16) : Lib.parseUintB 64 l ≠ .range := by
  unfold Lib.parseUintB
  by_cases c1 : l = []
  · rw [if_pos c1]; intro q; cases q
  · rw [if_neg c1]
    exact parse_nor l 0 (by simpa using Nat.pow_le_pow_right (by decide : 1 ≤ 10) h)
theorem parse_no : ∀ (l : List UInt8) (a : Nat), l.all isDig = false → ∀ u, Lib.parseUintM (2 ^ 64 - 1) a l ≠ .ok u
  | [], a, h, u => by simp at h
  | c :: l, a, h, u => by
    unfold Lib.parseUintM
    by_cases hc : 48 ≤ c.toNat ∧ c.toNat ≤ 57
    · rw [if_pos hc]
      have hl : l.all isDig = false := by
        simp only [List.all_cons] at h
        rw [show isDig c = true from decide_eq_true hc, Bool.true_and] at h
        exact h
      by_cases c1 : 1844674407370955162 ≤ a
      · rw [if_pos c1]; intro q; cases q
      · rw [if_neg c1]
        by_cases c2 : 2 ^ 64 - 1 < a * 10 + (c.toNat - 48)
        · rw [if_pos c2]; intro q; cases q
        · rw [if_neg c2]; exact parse_no l _ hl u
    · rw [if_neg hc]; intro q; cases q
theorem parse_some {l : List UInt8} {k u : Nat} (hk : k ≤ 16) (h : digs l k = some u) : Lib.parseUintB 64 l = .ok u ∧ l.length ≤ k ∧ u < 10 ^ k := by
  unfold digs at h
  by_cases c : l ≠ [] ∧ l.length ≤ k ∧ l.all isDig = true
  · rw [if_pos c] at h
    injection h with h
    obtain ⟨c1, c2, c3⟩ := c
    refine ⟨?_, c2, ?_⟩
    · unfold Lib.parseUintB
      rw [if_neg c1, parse_all l 0 c3 (by simpa using Nat.pow_le_pow_right (by decide : 1 ≤ 10) (Nat.le_trans c2 hk))]
      rw [← h]; rfl
    · rw [← h]
      exact Nat.lt_of_lt_of_le (dval_bd c3) (Nat.pow_le_pow_right (by decide) c2)
  · rw [if_neg c] at h; cases h
theorem parse_none {l : List UInt8} {k : Nat} (h : digs l k = none) (hl : l.length ≤ k) : ∀ u, Lib.parseUintB 64 l ≠ .ok u := by
  unfold digs at h
  intro u
  unfold Lib.parseUintB
  by_cases c1 : l = []
  · rw [if_pos c1]; intro q; cases q
  · rw [if_neg c1]
    refine parse_no l 0 ?_ u
    by_cases c3 : l.all isDig = true
    · rw [if_pos ⟨c1, hl, c3⟩] at h; cases h
    · simpa using c3
end Go.Proofs.YthmdobajilladaaDoor
