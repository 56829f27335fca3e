/- The document's answers for layer 4: the text of a cell. Condition: cells are integers of 64 bits. -/
import Derived.Test.YthmdobajilladaaDoorR4V
import Derived.Test.YthmdobajilladaaDoorR4Q
import Derived.Deep.RegionHeld3
namespace Go.Proofs.YthmdobajilladaaDoor
open Go.RowKit
set_option linter.unusedVariables false
open Ieee (double)

/-- N and F are M and E, halved some times. -/
structure HalfInv (M : Nat) (E : Int) (N : Nat) (F : Int) : Prop where
  ne : N ≠ 0
  le : N ≤ M
  is : ∃ i : Nat, M = N * 2 ^ i ∧ F = E + i
theorem HalfInv.start {M : Nat} {E : Int} (h : M ≠ 0) : HalfInv M E M E := ⟨h, Nat.le_refl _, 0, by simp, by simp⟩
theorem HalfInv.step {M : Nat} {E : Int} {N : Nat} {F : Int} (h : HalfInv M E N F) (hN : N % 2 = 0) : HalfInv M E (N / 2) (F + 1) ∧ N / 2 < N := by
  obtain ⟨h1, h2, i, h3, h4⟩ := h
  refine ⟨⟨by omega, by omega, i + 1, ?_, by omega⟩, by omega⟩
  rw [Nat.pow_succ, Nat.mul_comm (2 ^ i) 2, ← Nat.mul_assoc, show N / 2 * 2 = N by omega]
  exact h3
theorem HalfInv.bd {M : Nat} {E : Int} {N : Nat} {F : Int} (h : HalfInv M E N F) (hM : M ≤ 9007199254740992) : E ≤ F ∧ F ≤ E + 60 := by
  obtain ⟨h1, h2, i, h3, h4⟩ := h
  have : 2 ^ i ≤ M := by rw [h3]; exact Nat.le_mul_of_pos_left _ (by omega)
  have hi : i < 54 := by
    have : 2 ^ i < 2 ^ 54 := Nat.lt_of_le_of_lt (Nat.le_trans this hM) (by decide)
    exact (Nat.pow_lt_pow_iff_right (by decide)).1 this
  omega
theorem odd_unique : ∀ (i j a b : Nat), a % 2 = 1 → b % 2 = 1 → a * 2 ^ i = b * 2 ^ j → a = b ∧ i = j
  | 0, 0, a, b, _, _, h => by simpa using h
  | 0, j + 1, a, b, ha, _, h => by
    rw [Nat.pow_zero, Nat.mul_one, Nat.pow_succ, ← Nat.mul_assoc] at h
    omega
  | i + 1, 0, a, b, _, hb, h => by
    rw [Nat.pow_zero, Nat.mul_one, Nat.pow_succ, ← Nat.mul_assoc] at h
    omega
  | i + 1, j + 1, a, b, ha, hb, h => by
    rw [Nat.pow_succ, Nat.pow_succ, ← Nat.mul_assoc, ← Nat.mul_assoc] at h
    obtain ⟨e1, e2⟩ := odd_unique i j a b ha hb (by omega)
    exact ⟨e1, by omega⟩
theorem HalfInv.stop {M : Nat} {E : Int} {N : Nat} {F : Int} (h : HalfInv M E N F) (hM : M < 18446744073709551616) (hN : ¬ N % 2 = 0) : N = M / 2 ^ Lib.ctz 64 M ∧ F = E + (Lib.ctz 64 M : Nat) := by
  obtain ⟨h1, h2, i, h3, h4⟩ := h
  obtain ⟨t1, t2⟩ := tz_exact M hM (by omega)
  obtain ⟨e1, e2⟩ := odd_unique i (Lib.ctz 64 M) N (M / 2 ^ Lib.ctz 64 M) (by omega) t2 (by rw [← h3]; exact t1)
  exact ⟨e1, by rw [h4, e2]⟩
theorem odd_nE {r : Nat} (h0 : r ≠ 0) (h : r < 9218868437227405312) : rM r / 2 ^ Lib.ctz 64 (rM r) = nM r / 2 ^ zN r ∧ rE r + (Lib.ctz 64 (rM r) : Nat) = nE r + (zN r : Nat) := by
  have hb := nM_bd h0 h
  have hM : rM r ≠ 0 := by
    intro q
    have : nM r = 0 := by unfold nM; rw [q, Nat.zero_mul]
    omega
  have hMl := (rung_can h).lt
  obtain ⟨a1, a2⟩ := tz_exact (rM r) (by omega) hM
  obtain ⟨b1, b2⟩ := tz_exact (nM r) (by omega) (by omega)
  have e : rM r / 2 ^ Lib.ctz 64 (rM r) * 2 ^ (Lib.ctz 64 (rM r) + nK r) = nM r / 2 ^ Lib.ctz 64 (nM r) * 2 ^ Lib.ctz 64 (nM r) := by
    rw [Nat.pow_add, ← Nat.mul_assoc, ← a1, ← b1]; rfl
  obtain ⟨e1, e2⟩ := odd_unique _ _ _ _ a2 b2 e
  refine ⟨e1, ?_⟩
  unfold zN nE
  omega
end Go.Proofs.YthmdobajilladaaDoor
