/- Plain arithmetic: what each step of the library's long division computes, in natural numbers. No Go text is spoken of. -/
import Derived.Lib.ItoaNum
import Derived.Laws.Bits64b
import Derived.Test.YtifnkmddinoneaaGreatDoorCBBH
set_option maxRecDepth 100000
namespace Go.Proofs.YtifnkmddinoneaaGreatDoor
open Go.RowKit
set_option linter.unusedVariables false

theorem u64_nat (n m : Nat) (h : n % 18446744073709551616 = m) : IntKind.u64.wrap (n : Int) = (m : Int) := by
  rw [u64_wrap]; omega
theorem u64_mul_nat (a b m : Nat) (h : a * b % 18446744073709551616 = m) : IntKind.u64.wrap ((a : Int) * (b : Int)) = (m : Int) := by
  rw [← Int.natCast_mul]; exact u64_nat _ _ h
theorem or_add (a l s : Nat) (hl : l < 2 ^ s) (ha : ∃ h, a = h * 2 ^ s) : a ||| l = a + l := by
  obtain ⟨h, rfl⟩ := ha
  rw [Nat.mul_comm, Nat.two_pow_add_eq_or_of_lt hl]
theorem and_mask (m : Nat) (hm : m < 18446744073709551616) : bits .and .u64 (m : Int) 4294967295 = ((m % 4294967296 : Nat) : Int) := by
  have h := bits_and_u64_nat m 4294967295 hm (by omega)
  have e : m &&& 4294967295 = m % 4294967296 := Nat.and_two_pow_sub_one_eq_mod m 32
  rw [e] at h
  exact h
theorem lz_is (Y : Nat) (h0 : 0 < Y) (h1 : Y < 18446744073709551616) : ∃ s : Nat, s < 64 ∧ 64 - (Lib.bitLen Y : Int) = s ∧ 9223372036854775808 ≤ Y * 2 ^ s ∧ Y * 2 ^ s < 18446744073709551616 := by
  obtain ⟨b1, b2, b3⟩ := Lib.bitLenAux_bounds 64 Y (by simpa using h1) (by omega)
  have b4 : Lib.bitLen Y ≤ 64 := Lib.bitLen_le Y 64 (by omega) (by simpa using h1)
  change 1 ≤ Lib.bitLen Y at b1
  change 2 ^ (Lib.bitLen Y - 1) ≤ Y at b2
  change Y < 2 ^ Lib.bitLen Y at b3
  generalize Lib.bitLen Y = n at *
  refine ⟨64 - n, by omega, by omega, ?_, ?_⟩
  · have : 2 ^ (n - 1) * 2 ^ (64 - n) ≤ Y * 2 ^ (64 - n) := Nat.mul_le_mul_right _ b2
    rw [← Nat.pow_add, show n - 1 + (64 - n) = 63 by omega] at this
    exact this
  · have : Y * 2 ^ (64 - n) < 2 ^ n * 2 ^ (64 - n) := Nat.mul_lt_mul_of_pos_right b3 (Nat.two_pow_pos _)
    rw [← Nat.pow_add, show n + (64 - n) = 64 by omega] at this
    exact this
structure DivA (H L Y s v y1 y0 t l u m d1 d0 a : Nat) : Prop where
  hs : s < 64
  ht : 1 ≤ t ∧ t ≤ 64
  lz : 64 - (Lib.bitLen Y : Int) = s
  ev : IntKind.u64.wrap ((Y : Int) * 2 ^ s) = (v : Int)
  ey1 : (v : Int) / 4294967296 = (y1 : Int)
  ey0 : bits .and .u64 (v : Int) 4294967295 = (y0 : Int)
  ea : IntKind.u64.wrap ((H : Int) * 2 ^ s) = (a : Int)
  et : IntKind.u64.wrap (64 - (s : Int)) = (t : Int)
  el : (L : Int) / 2 ^ t = (l : Int)
  eo : bits .or .u64 (a : Int) (l : Int) = (u : Int)
  em : IntKind.u64.wrap ((L : Int) * 2 ^ s) = (m : Int)
  ed1 : (m : Int) / 4294967296 = (d1 : Int)
  ed0 : bits .and .u64 (m : Int) 4294967295 = (d0 : Int)
  g : ∀ q r, q = u / y1 → r = u % y1 → Guess v y1 y0 u d1 q r
  hd0 : d0 < 4294967296
  hv : v < 18446744073709551616
  qt : (H * 18446744073709551616 + L) / Y = (u * 4294967296 + d1) / v * 4294967296 + ((u * 4294967296 + d1) % v * 4294967296 + d0) / v
  rt : (H * 18446744073709551616 + L) % Y = ((u * 4294967296 + d1) % v * 4294967296 + d0) % v / 2 ^ s
theorem div_a (H L Y : Nat) (hh : H < Y) (hl : L < 18446744073709551616) (hy : Y < 18446744073709551616) : ∃ s v y1 y0 t l u m d1 d0 a : Nat, DivA H L Y s v y1 y0 t l u m d1 d0 a := by
  obtain ⟨s, hs, hlz, v0, v1⟩ := lz_is Y (by omega) hy
  have hpq : 2 ^ s * 2 ^ (64 - s) = 18446744073709551616 := by rw [← Nat.pow_add, show s + (64 - s) = 64 by omega]
  have hp : 0 < 2 ^ s := Nat.two_pow_pos _
  obtain ⟨e1, e2⟩ := shifted H L (2 ^ s) (2 ^ (64 - s)) hpq hp hl
  have ha : H * 2 ^ s < Y * 2 ^ s := Nat.mul_lt_mul_of_pos_right hh hp
  obtain ⟨v, hv⟩ : ∃ v, v = Y * 2 ^ s := ⟨_, rfl⟩
  obtain ⟨m, hm⟩ : ∃ m, m = L * 2 ^ s % 18446744073709551616 := ⟨_, rfl⟩
  obtain ⟨l, hll⟩ : ∃ l, l = L / 2 ^ (64 - s) := ⟨_, rfl⟩
  obtain ⟨a, haa⟩ : ∃ a, a = H * 2 ^ s := ⟨_, rfl⟩
  have hm2 : m < 18446744073709551616 := by omega
  have hN : (H * 18446744073709551616 + L) * 2 ^ s < v * 18446744073709551616 := by
    rw [hv, Nat.mul_right_comm]
    refine Nat.mul_lt_mul_of_pos_right ?_ hp
    omega
  have hu : a + l < v := by
    rw [e1, ← hm, ← haa, ← hll] at hN
    omega
  have eN : (H * 18446744073709551616 + L) * 2 ^ s = (a + l) * 18446744073709551616 + m / 4294967296 * 4294967296 + m % 4294967296 := by
    rw [e1, ← hm, ← haa, ← hll]; omega
  have hvp : 0 < v := by omega
  obtain ⟨t1, t2⟩ := two_digits (a + l) (m / 4294967296) (m % 4294967296) v hvp
  obtain ⟨s1, s2⟩ := scaled (H * 18446744073709551616 + L) Y (2 ^ s) hp
  rw [← hv, eN] at s1 s2
  rw [← hv] at v0 v1 ha
  rw [← haa] at ha
  refine ⟨s, v, v / 4294967296, v % 4294967296, 64 - s, l, a + l, m, m / 4294967296, m % 4294967296, a, ?_⟩
  refine ⟨hs, by omega, hlz, ?_, by omega, and_mask v v1, ?_, ?_, ?_, ?_, ?_, by omega, and_mask m hm2, ?_, by omega, v1, ?_, ?_⟩
  · have := u64_mul_nat Y (2 ^ s) v (by rw [← hv]; exact Nat.mod_eq_of_lt v1)
    rwa [Int.natCast_pow] at this
  · have := u64_mul_nat H (2 ^ s) a (by rw [← haa]; exact Nat.mod_eq_of_lt (by omega))
    rwa [Int.natCast_pow] at this
  · rw [u64_wrap]; omega
  · rw [hll, Int.natCast_ediv, Int.natCast_pow]; rfl
  · rw [bits_or_u64_nat a l (by omega) (by omega), or_add a l s (by rw [hll]; exact e2) ⟨H, haa⟩]
  · have := u64_mul_nat L (2 ^ s) m hm.symm
    rwa [Int.natCast_pow] at this
  · rintro q r rfl rfl
    exact Guess.first (by omega) (by omega) (by omega) (by omega) hu (by omega)
  · rw [← s1, t1]
  · rw [← s2, t2]
structure DivB (v u d q x1 x2 x3 r : Nat) : Prop where
  e1 : IntKind.u64.wrap ((u : Int) * 4294967296) = (x1 : Int)
  e2 : IntKind.u64.wrap ((x1 : Int) + (d : Int)) = (x2 : Int)
  e3 : IntKind.u64.wrap ((q : Int) * (v : Int)) = (x3 : Int)
  e4 : IntKind.u64.wrap ((x2 : Int) - (x3 : Int)) = (r : Int)
theorem div_b (v u d q r : Nat) (hv : v < 18446744073709551616) (hp : 0 < v) (hq : q = (u * 4294967296 + d) / v) (hr : r = (u * 4294967296 + d) % v) : ∃ x1 x2 x3 : Nat, DivB v u d q x1 x2 x3 r := by
  have e := Nat.div_add_mod (u * 4294967296 + d) v
  rw [← hq, ← hr] at e
  have hlt : r < v := by rw [hr]; exact Nat.mod_lt _ hp
  clear hq hr
  rw [Nat.mul_comm] at e
  generalize hz : q * v = z at e
  refine ⟨u * 4294967296 % 18446744073709551616, (u * 4294967296 % 18446744073709551616 + d) % 18446744073709551616, q * v % 18446744073709551616, ?_, ?_, ?_, ?_⟩
  · exact u64_mul_nat u 4294967296 _ rfl
  · exact u64_nat _ _ rfl
  · exact u64_mul_nat q v _ rfl
  · rw [u64_wrap, hz]; omega
end Go.Proofs.YtifnkmddinoneaaGreatDoor
