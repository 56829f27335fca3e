/- Layer 3 (package digit): bases, letters, digits. No condition. -/
import Derived.Test.YtheealjhmndbgaaDoorC3RefA
namespace Go.Proofs.YtheealjhmndbgaaDoor
open Go.RowKit
set_option linter.unusedVariables false

theorem isbase_calls (b : Int) (w : World) : Calls Tryd.prog 44 #[.int .i64 b] w fun e w' => e = .returned (.bool (decide (2 ≤ b ∧ b ≤ 36))) ∧ w = w' := by
  by_cases h1 : 2 ≤ b
  · by_cases h2 : b ≤ 36
    · rw [decide_eq_true (And.intro h1 h2)]
      go_enter Tryd.func44, Tryd.ntmps44
      go_wp2
      go_ret
      exact ⟨rfl, rfl⟩
    · rw [decide_eq_false (fun h => h2 h.2)]
      have h3 : 36 < b := by omega
      go_enter Tryd.func44, Tryd.ntmps44
      go_wp2
      go_ret
      exact ⟨rfl, rfl⟩
  · rw [decide_eq_false (fun h => h1 h.1)]
    have h3 : b < 2 := by omega
    go_enter Tryd.func44, Tryd.ntmps44
    go_wp2
    go_ret
    exact ⟨rfl, rfl⟩
theorem letter_nat : ∀ n : Fin 36, (letter n.val).toNat = if n.val < 10 then 48 + n.val else 55 + n.val := by decide +kernel
theorem char_in (n : Nat) (h : n < 36) (w : World) : Calls Tryd.prog 56 #[.int .i64 (n : Int)] w fun e w' => e = .returned (.int .u8 ((letter n).toNat : Int)) ∧ w = w' := by
  have e := letter_nat ⟨n, h⟩
  simp only at e
  rw [e]
  clear e
  by_cases h1 : n < 10
  · rw [if_pos h1]
    have h2 : (n : Int) < 10 := by omega
    have h3 : (0 : Int) ≤ (n : Int) := by omega
    go_enter Tryd.func56, Tryd.ntmps56
    go_wp2
    go_ret
    exact ⟨ret_u8 (by simp), rfl⟩
  · rw [if_neg h1]
    have h2 : ¬ (n : Int) < 10 := by omega
    have h3 : (0 : Int) ≤ (n : Int) := by omega
    have h4 : (10 : Int) ≤ (n : Int) := by omega
    have h5 : (n : Int) < 36 := by omega
    go_enter Tryd.func56, Tryd.ntmps56
    go_wp2
    go_ret
    exact ⟨ret_u8 (by omega), rfl⟩
theorem char_out (n : Int) (h : n < 0 ∨ 35 < n) (w : World) : Calls Tryd.prog 56 #[.int .i64 n] w fun e w' => e = .returned (.int .u8 0) ∧ w = w' := by
  rcases h with h | h
  · have h2 : ¬ 0 ≤ n := by omega
    have h3 : ¬ 10 ≤ n := by omega
    go_enter Tryd.func56, Tryd.ntmps56
    go_wp2
    go_ret
    exact ⟨rfl, rfl⟩
  · have h2 : 0 ≤ n := by omega
    have h3 : 10 ≤ n := by omega
    have h4 : ¬ n < 10 := by omega
    have h5 : ¬ n < 36 := by omega
    go_enter Tryd.func56, Tryd.ntmps56
    go_wp2
    go_ret
    exact ⟨rfl, rfl⟩
def dN (c : UInt8) : Nat := (vdig c).getD 0
def dB (c : UInt8) : Bool := (vdig c).isSome
end Go.Proofs.YtheealjhmndbgaaDoor
