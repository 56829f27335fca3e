/- The document's digits are those of Go's library. No condition. -/
import Derived.Test.YthmdobajilladaaDoorNumU
import Derived.Test.YthmdobajilladaaDoorDigit
namespace Go.Proofs.YthmdobajilladaaDoor
set_option linter.unusedVariables false

theorem letter_dec : ∀ n : Fin 10, letter n.val = UInt8.ofNat (48 + n.val) := by decide +kernel
theorem letter_of {n : Nat} (h : n < 10) : letter n = UInt8.ofNat (48 + n) := letter_dec ⟨n, h⟩
/-- The text of a number in base 10. -/
theorem text_dec (n : Nat) (h : n < two128) : text 10 n = Lib.decDigits n := by
  refine text_ind 10 (by decide) (fun n l => l = Lib.decDigits n) ?_ ?_ n h
  · intro n hn _
    rw [Lib.decDigits, dif_pos hn, letter_of hn]
  · intro n l hn hq ih
    rw [Lib.decDigits, dif_neg (by omega), ← ih, letter_of (by omega)]
theorem value_dec (c : UInt8) : valueOf c 10 = if isDig c then some (c.toNat - 48) else none := by
  unfold valueOf vdig isDig
  by_cases h : 48 ≤ c.toNat ∧ c.toNat ≤ 57
  · rw [if_pos h, decide_eq_true h, if_pos rfl]
    simp only
    rw [if_pos (by omega)]
  · rw [if_neg h, decide_eq_false h]
    simp only [Bool.false_eq_true, if_false]
    by_cases h2 : 65 ≤ c.toNat ∧ c.toNat ≤ 90
    · rw [if_pos h2]; simp only; rw [if_neg (by omega)]
    · rw [if_neg h2]
      by_cases h3 : 97 ≤ c.toNat ∧ c.toNat ≤ 122
      · rw [if_pos h3]; simp only; rw [if_neg (by omega)]
      · rw [if_neg h3]
/-- All of a text is taken in just if all of it are digits. -/
theorem acc_all : ∀ (l : List UInt8) (p : Nat), ((acc 10 p l).2 = 0 ↔ l.all isDig = true)
  | [], p => by simp [acc]
  | c :: l, p => by
    cases h : isDig c with
    | true =>
      have hv := value_dec c
      rw [h, if_pos rfl] at hv
      rw [acc_some hv, acc_all l]
      simp [h]
    | false =>
      have hv := value_dec c
      rw [h, if_neg (by decide)] at hv
      rw [acc_none hv]
      simp [h]
theorem acc_val : ∀ (l : List UInt8) (p : Nat), l.all isDig = true → (p + 1) * 10 ^ l.length ≤ 10 ^ 38 → (acc 10 p l).1 = l.foldl (fun a c => a * 10 + (c.toNat - 48)) p
  | [], p, _, _ => rfl
  | c :: l, p, h, hb => by
    simp only [List.all_cons, Bool.and_eq_true] at h
    have hv := value_dec c
    rw [h.1, if_pos rfl] at hv
    have hc := of_decide_eq_true h.1
    have q : 1 ≤ 10 ^ l.length := Nat.pow_pos (by decide)
    rw [List.length_cons, Nat.pow_succ, Nat.mul_comm (10 ^ l.length) 10, ← Nat.mul_assoc] at hb
    have hb2 : (p + 1) * 10 * 1 ≤ (p + 1) * 10 * 10 ^ l.length := Nat.mul_le_mul_left _ q
    have e : (10 : Nat) ^ 38 < two128 := by decide +kernel
    have hlt : p * 10 + (c.toNat - 48) < two128 := by omega
    rw [acc_some hv, Nat.mod_eq_of_lt hlt, acc_val l _ h.2 (Nat.le_trans (Nat.mul_le_mul_right _ (by omega)) hb)]
    rfl
theorem acc_digs (l : List UInt8) (k u : Nat) (hk : k ≤ 16) (h : digs l k = some u) : acc 10 0 l = (u, 0) := by
  unfold digs at h
  by_cases c : l ≠ [] ∧ l.length ≤ k ∧ l.all isDig = true
  · rw [if_pos c] at h
    injection h with h
    obtain ⟨c1, c2, c3⟩ := c
    have a := acc_val l 0 c3 (by
      have : 10 ^ l.length ≤ 10 ^ 16 := Nat.pow_le_pow_right (by decide) (by omega)
      have e : (10 : Nat) ^ 16 ≤ 10 ^ 38 := by decide +kernel
      omega)
    have b := (acc_all l 0).2 c3
    rw [Prod.ext_iff]
    exact ⟨by rw [a, ← h]; rfl, b⟩
  · rw [if_neg c] at h; cases h
theorem acc_nodigs (l : List UInt8) (k : Nat) (h : digs l k = none) : ¬ (1 ≤ l.length ∧ l.length ≤ k ∧ (acc 10 0 l).2 = 0) := by
  rintro ⟨a, b, c⟩
  unfold digs at h
  rw [if_pos ⟨by intro q; rw [q] at a; simp at a, b, (acc_all l 0).1 c⟩] at h
  cases h
end Go.Proofs.YthmdobajilladaaDoor
