/- Plain arithmetic: the division of two digits by one, digit by digit (Knuth's), and signed quotients. No Go text is spoken of. Plain arithmetic on numbers as text: letters, what is taken in, texts and their order. No Go text is spoken of. -/
import Derived.Test.YtifnkmddinoneaaGreatDoorCBAO
import Derived.Test.YtifnkmddinoneaaGreatDoorCBAA
set_option maxRecDepth 100000
namespace Go.Proofs.YtifnkmddinoneaaGreatDoor
open Go.RowKit
set_option linter.unusedVariables false

/-- A guessed digit q1 with its rest r: what is known of it. -/
structure Guess (v y1 y0 u d q1 r : Nat) : Prop where
  hv : v = y1 * 4294967296 + y0
  h1 : 2147483648 ≤ y1
  h2 : y1 < 4294967296
  h3 : y0 < 4294967296
  hu : u < v
  hd : d < 4294967296
  eq : q1 * y1 + r = u
  ge : (u * 4294967296 + d) / v ≤ q1
  le : q1 ≤ 4294967297
theorem Guess.pos {v y1 y0 u d q1 r : Nat} (g : Guess v y1 y0 u d q1 r) : 0 < v := by have := g.hv; have := g.h1; omega
theorem Guess.small {v y1 y0 u d q1 r : Nat} (g : Guess v y1 y0 u d q1 r) : (u * 4294967296 + d) / v < 4294967296 := by
  rw [Nat.div_lt_iff_lt_mul g.pos]
  have := g.hu; have := g.hd
  calc u * 4294967296 + d < (u + 1) * 4294967296 := by omega
    _ ≤ v * 4294967296 := Nat.mul_le_mul_right _ (by omega)
    _ = 4294967296 * v := Nat.mul_comm _ _
theorem Guess.prod {v y1 y0 u d q1 r : Nat} (g : Guess v y1 y0 u d q1 r) : q1 * v = (u - r) * 4294967296 + q1 * y0 := by
  have e : q1 * y1 = u - r := by have := g.eq; omega
  rw [g.hv, Nat.mul_add, ← Nat.mul_assoc, e]
theorem Guess.first {v y1 y0 u d : Nat} (hv : v = y1 * 4294967296 + y0) (h1 : 2147483648 ≤ y1) (h2 : y1 < 4294967296) (h3 : y0 < 4294967296) (hu : u < v) (hd : d < 4294967296) :
    Guess v y1 y0 u d (u / y1) (u % y1) := by
  have hp : 0 < y1 := by omega
  have hvp : 0 < v := by omega
  refine ⟨hv, h1, h2, h3, hu, hd, by rw [Nat.mul_comm]; exact Nat.div_add_mod u y1, ?_, ?_⟩
  · rw [Nat.le_div_iff_mul_le hp]
    have e := Nat.div_mul_le_self (u * 4294967296 + d) v
    generalize (u * 4294967296 + d) / v = q at *
    have e2 : q * v = (q * y1) * 4294967296 + q * y0 := by rw [hv, Nat.mul_add, ← Nat.mul_assoc]
    omega
  · have : u / y1 < 4294967298 := by
      rw [Nat.div_lt_iff_lt_mul hp]
      omega
    omega
theorem Guess.more {v y1 y0 u d q1 r : Nat} (g : Guess v y1 y0 u d q1 r) (h : 4294967296 ≤ q1 ∨ 4294967296 * r + d < q1 * y0) : (u * 4294967296 + d) / v < q1 := by
  rcases h with h | h
  · have := g.small; omega
  · rw [Nat.div_lt_iff_lt_mul g.pos, g.prod]
    have := g.eq
    omega
theorem Guess.done {v y1 y0 u d q1 r : Nat} (g : Guess v y1 y0 u d q1 r) (h : q1 * y0 ≤ 4294967296 * r + d) : q1 = (u * 4294967296 + d) / v := by
  have h1 : q1 ≤ (u * 4294967296 + d) / v := by
    rw [Nat.le_div_iff_mul_le g.pos, g.prod]
    have := g.eq
    omega
  have := g.ge
  omega
theorem Guess.next {v y1 y0 u d q1 r : Nat} (g : Guess v y1 y0 u d q1 r) (h : (u * 4294967296 + d) / v < q1) : Guess v y1 y0 u d (q1 - 1) (r + y1) := by
  refine ⟨g.hv, g.h1, g.h2, g.h3, g.hu, g.hd, ?_, Nat.le_sub_one_of_lt h, Nat.le_trans (Nat.sub_le _ _) g.le⟩
  have hq : 0 < q1 := Nat.lt_of_le_of_lt (Nat.zero_le _) h
  clear h
  have e : (q1 - 1) * y1 + y1 = q1 * y1 := by
    rw [← Nat.succ_mul]; congr 1; omega
  have := g.eq
  omega
theorem Guess.out {v y1 y0 u d q1 r : Nat} (g : Guess v y1 y0 u d q1 r) (h : q1 ≤ 4294967296) (hr : 4294967296 ≤ r) : q1 = (u * 4294967296 + d) / v := by
  refine g.done ?_
  have h1 : q1 * y0 ≤ 4294967296 * y0 := Nat.mul_le_mul_right _ h
  have := g.h3
  omega
theorem two_digits (u d1 d0 v : Nat) (hp : 0 < v) : (u * 18446744073709551616 + d1 * 4294967296 + d0) / v = (u * 4294967296 + d1) / v * 4294967296 + ((u * 4294967296 + d1) % v * 4294967296 + d0) / v
    ∧ (u * 18446744073709551616 + d1 * 4294967296 + d0) % v = ((u * 4294967296 + d1) % v * 4294967296 + d0) % v := by
  have e := Nat.div_add_mod (u * 4294967296 + d1) v
  obtain ⟨q, hq⟩ : ∃ q, q = (u * 4294967296 + d1) / v := ⟨_, rfl⟩
  obtain ⟨r, hr⟩ : ∃ r, r = (u * 4294967296 + d1) % v := ⟨_, rfl⟩
  rw [← hq, ← hr] at e ⊢
  have e2 : u * 18446744073709551616 + d1 * 4294967296 + d0 = (r * 4294967296 + d0) + v * (q * 4294967296) := by
    rw [← Nat.mul_assoc]; omega
  rw [e2, Nat.add_mul_div_left _ _ hp, Nat.add_mul_mod_self_left]
  exact ⟨by omega, rfl⟩
theorem scaled (n y p : Nat) (hp : 0 < p) : n * p / (y * p) = n / y ∧ n * p % (y * p) / p = n % y := by
  refine ⟨Nat.mul_div_mul_right _ _ hp, ?_⟩
  rw [Nat.mul_mod_mul_right, Nat.mul_div_cancel _ hp]
theorem shifted (h l p q : Nat) (hpq : p * q = 18446744073709551616) (hp : 0 < p) (hl : l < 18446744073709551616) :
    (h * 18446744073709551616 + l) * p = (h * p + l / q) * 18446744073709551616 + l * p % 18446744073709551616 ∧ l / q < p := by
  have e1 : l * p / 18446744073709551616 = l / q := by
    rw [← hpq, Nat.mul_comm l p, Nat.mul_div_mul_left _ _ hp]
  have e2 := Nat.div_add_mod (l * p) 18446744073709551616
  rw [e1] at e2
  refine ⟨?_, ?_⟩
  · rw [Nat.add_mul, Nat.add_mul, Nat.mul_right_comm]; omega
  · have hq : 0 < q := by
      rcases Nat.eq_zero_or_pos q with h0 | h0
      · subst h0; omega
      · exact h0
    rw [Nat.div_lt_iff_lt_mul hq, hpq]; exact hl
end Go.Proofs.YtifnkmddinoneaaGreatDoor
namespace Go.Proofs.YtifnkmddinoneaaGreatDoor
set_option linter.unusedVariables false

/-- The letter of a digit. -/
def letter (n : Nat) : UInt8 := if n < 10 then (48 + n).toUInt8 else (55 + n).toUInt8
end Go.Proofs.YtifnkmddinoneaaGreatDoor
