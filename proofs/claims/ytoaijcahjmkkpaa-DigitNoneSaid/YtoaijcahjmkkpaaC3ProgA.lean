/- Layer 3 (package digit): bases, letters, digits. No condition. -/
import Derived.Test.YtoaijcahjmkkpaaC3RefA
namespace Go.Proofs.Ytoaijcahjmkkpaa
open Go.RowKit
set_option linter.unusedVariables false

theorem isbase_calls (b : Int) (w : World) : Calls Try.prog 28 #[.int .i64 b] w fun e w' => e = .returned (.bool (decide (2 ≤ b ∧ b ≤ 36))) ∧ w = w' := by
  by_cases h1 : 2 ≤ b
  · by_cases h2 : b ≤ 36
    · rw [decide_eq_true (And.intro h1 h2)]
      go_enter Try.func28, Try.ntmps28
      go_wp2
      go_ret
      exact ⟨rfl, rfl⟩
    · rw [decide_eq_false (fun h => h2 h.2)]
      have h3 : 36 < b := by omega
      go_enter Try.func28, Try.ntmps28
      go_wp2
      go_ret
      exact ⟨rfl, rfl⟩
  · rw [decide_eq_false (fun h => h1 h.1)]
    have h3 : b < 2 := by omega
    go_enter Try.func28, Try.ntmps28
    go_wp2
    go_ret
    exact ⟨rfl, rfl⟩
theorem letter_nat : ∀ n : Fin 36, (letter n.val).toNat = if n.val < 10 then 48 + n.val else 55 + n.val := by decide +kernel
theorem char_in (n : Nat) (h : n < 36) (w : World) : Calls Try.prog 19 #[.int .i64 (n : Int)] w fun e w' => e = .returned (.int .u8 ((letter n).toNat : Int)) ∧ w = w' := by
  have e := letter_nat ⟨n, h⟩
  simp only at e
  rw [e]
  clear e
  by_cases h1 : n < 10
  · rw [if_pos h1]
    have h2 : (n : Int) < 10 := by omega
    have h3 : (0 : Int) ≤ (n : Int) := by omega
    go_enter Try.func19, Try.ntmps19
    go_wp2
    go_ret
    exact ⟨ret_u8 (by simp), rfl⟩
  · rw [if_neg h1]
    have h2 : ¬ (n : Int) < 10 := by omega
    have h3 : (0 : Int) ≤ (n : Int) := by omega
    have h4 : (10 : Int) ≤ (n : Int) := by omega
    have h5 : (n : Int) < 36 := by omega
    go_enter Try.func19, Try.ntmps19
    go_wp2
    go_ret
    exact ⟨ret_u8 (by omega), rfl⟩
theorem char_out (n : Int) (h : n < 0 ∨ 35 < n) (w : World) : Calls Try.prog 19 #[.int .i64 n] w fun e w' => e = .returned (.int .u8 0) ∧ w = w' := by
  rcases h with h | h
  · have h2 : ¬ 0 ≤ n := by omega
    have h3 : ¬ 10 ≤ n := by omega
    go_enter Try.func19, Try.ntmps19
    go_wp2
    go_ret
    exact ⟨rfl, rfl⟩
  · have h2 : 0 ≤ n := by omega
    have h3 : 10 ≤ n := by omega
    have h4 : ¬ n < 10 := by omega
    have h5 : ¬ n < 36 := by omega
    go_enter Try.func19, Try.ntmps19
    go_wp2
    go_ret
    exact ⟨rfl, rfl⟩
def dN (c : UInt8) : Nat := (vdig c).getD 0
def dB (c : UInt8) : Bool := (vdig c).isSome
theorem digitof_calls (c : UInt8) (w : World) : Calls Try.prog 32 #[.int .u8 (c.toNat : Int)] w fun e w' => e = .returned (.tuple #[.int .i64 ((dN c : Nat) : Int), .bool (dB c)]) ∧ w = w' := by
  have e : vdig c = if 48 ≤ c.toNat ∧ c.toNat ≤ 57 then some (c.toNat - 48) else if 65 ≤ c.toNat ∧ c.toNat ≤ 90 then some (c.toNat - 55) else if 97 ≤ c.toNat ∧ c.toNat ≤ 122 then some (c.toNat - 87) else none := rfl
  have hC : c.toNat ≤ 255 := by have := c.toNat_lt; omega
  unfold dN dB
  rw [e]
  clear e
  generalize c.toNat = n at *
  have h0 : (0 : Int) ≤ (n : Int) := by omega
  have h255 : (n : Int) ≤ 255 := by omega
  by_cases c1 : 48 ≤ n ∧ n ≤ 57
  · rw [if_pos c1]
    have k1 : (48 : Int) ≤ (n : Int) := by omega
    have k2 : (n : Int) ≤ 57 := by omega
    have k3 : ((n - 48 : Nat) : Int) = (n : Int) - 48 := by omega
    have K := Lib.hid k3
    clear c1 k3
    go_enter Try.func32, Try.ntmps32
    go_wp2
    go_ret2
    exact ⟨by first | (rw [Option.getD_some, K.out]; rfl) | (rw [K.out]; rfl), rfl⟩
  · rw [if_neg c1]
    by_cases c2 : 65 ≤ n ∧ n ≤ 90
    · rw [if_pos c2]
      have k1 : (65 : Int) ≤ (n : Int) := by omega
      have k2 : (n : Int) ≤ 90 := by omega
      have k4 : (48 : Int) ≤ (n : Int) := by omega
      have k5 : ¬ (n : Int) ≤ 57 := by omega
      have k3 : ((n - 55 : Nat) : Int) = (n : Int) - 65 + 10 := by omega
      have K := Lib.hid k3
      clear c1 c2 k3
      go_enter Try.func32, Try.ntmps32
      go_wp2
      go_ret2
      exact ⟨by first | (rw [Option.getD_some, K.out]; rfl) | (rw [K.out]; rfl), rfl⟩
    · rw [if_neg c2]
      by_cases c3 : 97 ≤ n ∧ n ≤ 122
      · rw [if_pos c3]
        have k1 : (97 : Int) ≤ (n : Int) := by omega
        have k2 : (n : Int) ≤ 122 := by omega
        have k4 : (48 : Int) ≤ (n : Int) := by omega
        have k5 : ¬ (n : Int) ≤ 57 := by omega
        have k6 : (65 : Int) ≤ (n : Int) := by omega
        have k7 : ¬ (n : Int) ≤ 90 := by omega
        have k3 : ((n - 87 : Nat) : Int) = (n : Int) - 97 + 10 := by omega
        have K := Lib.hid k3
        clear c1 c2 c3 k3
        go_enter Try.func32, Try.ntmps32
        go_wp2
        go_ret2
        exact ⟨by first | (rw [Option.getD_some, K.out]; rfl) | (rw [K.out]; rfl), rfl⟩
      · rw [if_neg c3]
        go_enter Try.func32, Try.ntmps32
        go_wp2
        all_goals first
          | (go_ret2; exact ⟨rfl, rfl⟩)
          | (exfalso; omega)
theorem value_calls (c : UInt8) (b : Int) (w : World) : Calls Try.prog 13 #[.int .u8 (c.toNat : Int), .int .i64 b] w fun e w' => e = .returned (.tuple #[.int .i64 ((vN c b.toNat : Nat) : Int), .bool (vB c b.toNat)]) ∧ w = w' := by
  have hd := digitof_calls c
  have e : valueOf c b.toNat = match vdig c with | some d => if d < b.toNat then some d else none | none => none := rfl
  unfold vN vB
  rw [e]
  clear e
  unfold dN dB at hd
  cases hv : vdig c with
  | none =>
    rw [hv] at hd
    simp only [Option.getD_none, Option.isSome_none] at hd ⊢
    have D := Lib.hid hd
    clear hd hv
    go_enter Try.func13, Try.ntmps13
    go_wp2_with fail
    refine (D.out _).mono ?_
    rintro e w' ⟨rfl, rfl⟩
    go_wp2_with fail
    go_ret2
    exact ⟨rfl, rfl⟩
  | some d =>
    rw [hv] at hd
    simp only [Option.getD_some, Option.isSome_some] at hd ⊢
    have D := Lib.hid hd
    clear hd hv
    by_cases hb : d < b.toNat
    · rw [if_pos hb]
      simp only [Option.getD_some, Option.isSome_some]
      have h1 : ¬ b ≤ (d : Int) := by omega
      go_enter Try.func13, Try.ntmps13
      go_wp2_with fail
      refine (D.out _).mono ?_
      rintro e w' ⟨rfl, rfl⟩
      go_wp2_with fail
      go_ret2
      exact ⟨rfl, rfl⟩
    · rw [if_neg hb]
      simp only [Option.getD_none, Option.isSome_none]
      have h1 : b ≤ (d : Int) := by omega
      go_enter Try.func13, Try.ntmps13
      go_wp2_with fail
      refine (D.out _).mono ?_
      rintro e w' ⟨rfl, rfl⟩
      go_wp2_with fail
      go_ret2
      exact ⟨rfl, rfl⟩
end Go.Proofs.Ytoaijcahjmkkpaa
