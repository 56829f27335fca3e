/- Plain arithmetic: the division of two digits by one, digit by digit (Knuth's), and signed quotients. No Go text is spoken of. Plain arithmetic: what each step of the library's long division computes, in natural numbers. No Go text is spoken of. -/
import Derived.Test.YthmdobajilladaaDoorPair
import Derived.Lib.ItoaNum
import Derived.Laws.Bits64b
namespace Go.Proofs.YthmdobajilladaaDoor
open Go.RowKit
set_option linter.unusedVariables false

/-- A guessed digit q1 with its rest r: what is known of it. -/
structure Guess (v y1 y0 u d q1 r : Nat) : Prop where
  hv : v = y1 * 4294967296 + y0
  h1 : 2147483648 ≤ y1
  h2 : y1 < 4294967296
  h3 : y0 < 4294967296
  hu : u < v
  hd : d < 4294967296
  eq : q1 * y1 + r = u
  ge : (u * 4294967296 + d) / v ≤ q1
  le : q1 ≤ 4294967297
theorem Guess.pos {v y1 y0 u d q1 r : Nat} (g : Guess v y1 y0 u d q1 r) : 0 < v := by have := g.hv; have := g.h1; omega
theorem Guess.small {v y1 y0 u d q1 r : Nat} (g : Guess v y1 y0 u d q1 r) : (u * 4294967296 + d) / v < 4294967296 := by
  rw [Nat.div_lt_iff_lt_mul g.pos]
  have := g.hu; have := g.hd
  calc u * 4294967296 + d < (u + 1) * 4294967296 := by omega
    _ ≤ v * 4294967296 := Nat.mul_le_mul_right _ (by omega)
    _ = 4294967296 * v := Nat.mul_comm _ _
theorem Guess.prod {v y1 y0 u d q1 r : Nat} (g : Guess v y1 y0 u d q1 r) : q1 * v = (u - r) * 4294967296 + q1 * y0 := by
  have e : q1 * y1 = u - r := by have := g.eq; omega
  rw [g.hv, Nat.mul_add, ← Nat.mul_assoc, e]
theorem Guess.first {v y1 y0 u d : Nat} (hv : v = y1 * 4294967296 + y0) (h1 : 2147483648 ≤ y1) (h2 : y1 < 4294967296) (h3 : y0 < 4294967296) (hu : u < v) (hd : d < 4294967296) :
    Guess v y1 y0 u d (u / y1) (u % y1) := by
  have hp : 0 < y1 := by omega
  have hvp : 0 < v := by omega
  refine ⟨hv, h1, h2, h3, hu, hd, by rw [Nat.mul_comm]; exact Nat.div_add_mod u y1, ?_, ?_⟩
  · rw [Nat.le_div_iff_mul_le hp]
    have e := Nat.div_mul_le_self (u * 4294967296 + d) v
    generalize (u * 4294967296 + d) / v = q at *
    have e2 : q * v = (q * y1) * 4294967296 + q * y0 := by rw [hv, Nat.mul_add, ← Nat.mul_assoc]
    omega
  · have : u / y1 < 4294967298 := by
      rw [Nat.div_lt_iff_lt_mul hp]
      omega
    omega
theorem Guess.more {v y1 y0 u d q1 r : Nat} (g : Guess v y1 y0 u d q1 r) (h : 4294967296 ≤ q1 ∨ 4294967296 * r + d < q1 * y0) : (u * 4294967296 + d) / v < q1 := by
  rcases h with h | h
  · have := g.small; omega
  · rw [Nat.div_lt_iff_lt_mul g.pos, g.prod]
    have := g.eq
    omega
theorem Guess.done {v y1 y0 u d q1 r : Nat} (g : Guess v y1 y0 u d q1 r) (h : q1 * y0 ≤ 4294967296 * r + d) : q1 = (u * 4294967296 + d) / v := by
  have h1 : q1 ≤ (u * 4294967296 + d) / v := by
    rw [Nat.le_div_iff_mul_le g.pos, g.prod]
    have := g.eq
    omega
  have := g.ge
  omega
theorem Guess.next {v y1 y0 u d q1 r : Nat} (g : Guess v y1 y0 u d q1 r) (h : (u * 4294967296 + d) / v < q1) : Guess v y1 y0 u d (q1 - 1) (r + y1) := by
  refine ⟨g.hv, g.h1, g.h2, g.h3, g.hu, g.hd, ?_, Nat.le_sub_one_of_lt h, Nat.le_trans (Nat.sub_le _ _) g.le⟩
  have hq : 0 < q1 := Nat.lt_of_le_of_lt (Nat.zero_le _) h
  clear h
  have e : (q1 - 1) * y1 + y1 = q1 * y1 := by
    rw [← Nat.succ_mul]; congr 1; omega
  have := g.eq
  omega
theorem Guess.out {v y1 y0 u d q1 r : Nat} (g : Guess v y1 y0 u d q1 r) (h : q1 ≤ 4294967296) (hr : 4294967296 ≤ r) : q1 = (u * 4294967296 + d) / v := by
  refine g.done ?_
  have h1 : q1 * y0 ≤ 4294967296 * y0 := Nat.mul_le_mul_right _ h
  have := g.h3
  omega
/-- Two digits, one after the other, are the quotient and what is left. -/
theorem two_digits (u d1 d0 v : Nat) (hp : 0 < v) : (u * 18446744073709551616 + d1 * 4294967296 + d0) / v = (u * 4294967296 + d1) / v * 4294967296 + ((u * 4294967296 + d1) % v * 4294967296 + d0) / v
    ∧ (u * 18446744073709551616 + d1 * 4294967296 + d0) % v = ((u * 4294967296 + d1) % v * 4294967296 + d0) % v := by
  have e := Nat.div_add_mod (u * 4294967296 + d1) v
  obtain ⟨q, hq⟩ : ∃ q, q = (u * 4294967296 + d1) / v := ⟨_, rfl⟩
  obtain ⟨r, hr⟩ : ∃ r, r = (u * 4294967296 + d1) % v := ⟨_, rfl⟩
  rw [← hq, ← hr] at e ⊢
  have e2 : u * 18446744073709551616 + d1 * 4294967296 + d0 = (r * 4294967296 + d0) + v * (q * 4294967296) := by
    rw [← Nat.mul_assoc]; omega
  rw [e2, Nat.add_mul_div_left _ _ hp, Nat.add_mul_mod_self_left]
  exact ⟨by omega, rfl⟩
theorem scaled (n y p : Nat) (hp : 0 < p) : n * p / (y * p) = n / y ∧ n * p % (y * p) / p = n % y := by
  refine ⟨Nat.mul_div_mul_right _ _ hp, ?_⟩
  rw [Nat.mul_mod_mul_right, Nat.mul_div_cancel _ hp]
/-- What a number of two words is, shifted: its high word, and its low one. -/
theorem shifted (h l p q : Nat) (hpq : p * q = 18446744073709551616) (hp : 0 < p) (hl : l < 18446744073709551616) :
    (h * 18446744073709551616 + l) * p = (h * p + l / q) * 18446744073709551616 + l * p % 18446744073709551616 ∧ l / q < p := by
  have e1 : l * p / 18446744073709551616 = l / q := by
    rw [← hpq, Nat.mul_comm l p, Nat.mul_div_mul_left _ _ hp]
  have e2 := Nat.div_add_mod (l * p) 18446744073709551616
  rw [e1] at e2
  refine ⟨?_, ?_⟩
  · rw [Nat.add_mul, Nat.add_mul, Nat.mul_right_comm]; omega
  · have hq : 0 < q := by
      rcases Nat.eq_zero_or_pos q with h0 | h0
      · subst h0; omega
      · exact h0
    rw [Nat.div_lt_iff_lt_mul hq, hpq]; exact hl
end Go.Proofs.YthmdobajilladaaDoor

namespace Go.Proofs.YthmdobajilladaaDoor
open Go.RowKit
set_option linter.unusedVariables false

theorem u64_nat (n m : Nat) (h : n % 18446744073709551616 = m) : IntKind.u64.wrap (n : Int) = (m : Int) := by
  rw [u64_wrap]; omega
theorem u64_mul_nat (a b m : Nat) (h : a * b % 18446744073709551616 = m) : IntKind.u64.wrap ((a : Int) * (b : Int)) = (m : Int) := by
  rw [← Int.natCast_mul]; exact u64_nat _ _ h
theorem or_add (a l s : Nat) (hl : l < 2 ^ s) (ha : ∃ h, a = h * 2 ^ s) : a ||| l = a + l := by
  obtain ⟨h, rfl⟩ := ha
  rw [Nat.mul_comm, Nat.two_pow_add_eq_or_of_lt hl]
theorem and_mask (m : Nat) (hm : m < 18446744073709551616) : bits .and .u64 (m : Int) 4294967295 = ((m % 4294967296 : Nat) : Int) := by
  have h := bits_and_u64_nat m 4294967295 hm (by omega)
  have e : m &&& 4294967295 = m % 4294967296 := Nat.and_two_pow_sub_one_eq_mod m 32
  rw [e] at h
  exact h
theorem lz_is (Y : Nat) (h0 : 0 < Y) (h1 : Y < 18446744073709551616) : ∃ s : Nat, s < 64 ∧ 64 - (Lib.bitLen Y : Int) = s ∧ 9223372036854775808 ≤ Y * 2 ^ s ∧ Y * 2 ^ s < 18446744073709551616 := by
  obtain ⟨b1, b2, b3⟩ := Lib.bitLenAux_bounds 64 Y (by simpa using h1) (by omega)
  have b4 : Lib.bitLen Y ≤ 64 := Lib.bitLen_le Y 64 (by omega) (by simpa using h1)
  change 1 ≤ Lib.bitLen Y at b1
  change 2 ^ (Lib.bitLen Y - 1) ≤ Y at b2
  change Y < 2 ^ Lib.bitLen Y at b3
  generalize Lib.bitLen Y = n at *
  refine ⟨64 - n, by omega, by omega, ?_, ?_⟩
  · have : 2 ^ (n - 1) * 2 ^ (64 - n) ≤ Y * 2 ^ (64 - n) := Nat.mul_le_mul_right _ b2
    rw [← Nat.pow_add, show n - 1 + (64 - n) = 63 by omega] at this
    exact this
  · have : Y * 2 ^ (64 - n) < 2 ^ n * 2 ^ (64 - n) := Nat.mul_lt_mul_of_pos_right b3 (Nat.two_pow_pos _)
    rw [← Nat.pow_add, show n + (64 - n) = 64 by omega] at this
    exact this

structure DivA (H L Y s v y1 y0 t l u m d1 d0 a : Nat) : Prop where
  hs : s < 64
  ht : 1 ≤ t ∧ t ≤ 64
  lz : 64 - (Lib.bitLen Y : Int) = s
  ev : IntKind.u64.wrap ((Y : Int) * 2 ^ s) = (v : Int)
  ey1 : (v : Int) / 4294967296 = (y1 : Int)
  ey0 : bits .and .u64 (v : Int) 4294967295 = (y0 : Int)
  ea : IntKind.u64.wrap ((H : Int) * 2 ^ s) = (a : Int)
  et : IntKind.u64.wrap (64 - (s : Int)) = (t : Int)
  el : (L : Int) / 2 ^ t = (l : Int)
  eo : bits .or .u64 (a : Int) (l : Int) = (u : Int)
  em : IntKind.u64.wrap ((L : Int) * 2 ^ s) = (m : Int)
  ed1 : (m : Int) / 4294967296 = (d1 : Int)
  ed0 : bits .and .u64 (m : Int) 4294967295 = (d0 : Int)
  g : ∀ q r, q = u / y1 → r = u % y1 → Guess v y1 y0 u d1 q r
  hd0 : d0 < 4294967296
  hv : v < 18446744073709551616
  qt : (H * 18446744073709551616 + L) / Y = (u * 4294967296 + d1) / v * 4294967296 + ((u * 4294967296 + d1) % v * 4294967296 + d0) / v
  rt : (H * 18446744073709551616 + L) % Y = ((u * 4294967296 + d1) % v * 4294967296 + d0) % v / 2 ^ s
theorem div_a (H L Y : Nat) (hh : H < Y) (hl : L < 18446744073709551616) (hy : Y < 18446744073709551616) : ∃ s v y1 y0 t l u m d1 d0 a : Nat, DivA H L Y s v y1 y0 t l u m d1 d0 a := by
  obtain ⟨s, hs, hlz, v0, v1⟩ := lz_is Y (by omega) hy
  have hpq : 2 ^ s * 2 ^ (64 - s) = 18446744073709551616 := by rw [← Nat.pow_add, show s + (64 - s) = 64 by omega]
  have hp : 0 < 2 ^ s := Nat.two_pow_pos _
  obtain ⟨e1, e2⟩ := shifted H L (2 ^ s) (2 ^ (64 - s)) hpq hp hl
  have ha : H * 2 ^ s < Y * 2 ^ s := Nat.mul_lt_mul_of_pos_right hh hp
  obtain ⟨v, hv⟩ : ∃ v, v = Y * 2 ^ s := ⟨_, rfl⟩
  obtain ⟨m, hm⟩ : ∃ m, m = L * 2 ^ s % 18446744073709551616 := ⟨_, rfl⟩
  obtain ⟨l, hll⟩ : ∃ l, l = L / 2 ^ (64 - s) := ⟨_, rfl⟩
  obtain ⟨a, haa⟩ : ∃ a, a = H * 2 ^ s := ⟨_, rfl⟩
  have hm2 : m < 18446744073709551616 := by omega
  have hN : (H * 18446744073709551616 + L) * 2 ^ s < v * 18446744073709551616 := by
    rw [hv, Nat.mul_right_comm]
    refine Nat.mul_lt_mul_of_pos_right ?_ hp
    omega
  have hu : a + l < v := by
    rw [e1, ← hm, ← haa, ← hll] at hN
    omega
  have eN : (H * 18446744073709551616 + L) * 2 ^ s = (a + l) * 18446744073709551616 + m / 4294967296 * 4294967296 + m % 4294967296 := by
    rw [e1, ← hm, ← haa, ← hll]; omega
  have hvp : 0 < v := by omega
  obtain ⟨t1, t2⟩ := two_digits (a + l) (m / 4294967296) (m % 4294967296) v hvp
  obtain ⟨s1, s2⟩ := scaled (H * 18446744073709551616 + L) Y (2 ^ s) hp
  rw [← hv, eN] at s1 s2
  rw [← hv] at v0 v1 ha
  rw [← haa] at ha
  refine ⟨s, v, v / 4294967296, v % 4294967296, 64 - s, l, a + l, m, m / 4294967296, m % 4294967296, a, ?_⟩
  refine ⟨hs, by omega, hlz, ?_, by omega, and_mask v v1, ?_, ?_, ?_, ?_, ?_, by omega, and_mask m hm2, ?_, by omega, v1, ?_, ?_⟩
  · have := u64_mul_nat Y (2 ^ s) v (by rw [← hv]; exact Nat.mod_eq_of_lt v1)
    rwa [Int.natCast_pow] at this
  · have := u64_mul_nat H (2 ^ s) a (by rw [← haa]; exact Nat.mod_eq_of_lt (by omega))
    rwa [Int.natCast_pow] at this
  · rw [u64_wrap]; omega
  · rw [hll, Int.natCast_ediv, Int.natCast_pow]; rfl
  · rw [bits_or_u64_nat a l (by omega) (by omega), or_add a l s (by rw [hll]; exact e2) ⟨H, haa⟩]
  · have := u64_mul_nat L (2 ^ s) m hm.symm
    rwa [Int.natCast_pow] at this
  · rintro q r rfl rfl
    exact Guess.first (by omega) (by omega) (by omega) (by omega) hu (by omega)
  · rw [← s1, t1]
  · rw [← s2, t2]

structure DivB (v u d q x1 x2 x3 r : Nat) : Prop where
  e1 : IntKind.u64.wrap ((u : Int) * 4294967296) = (x1 : Int)
  e2 : IntKind.u64.wrap ((x1 : Int) + (d : Int)) = (x2 : Int)
  e3 : IntKind.u64.wrap ((q : Int) * (v : Int)) = (x3 : Int)
  e4 : IntKind.u64.wrap ((x2 : Int) - (x3 : Int)) = (r : Int)
theorem div_b (v u d q r : Nat) (hv : v < 18446744073709551616) (hp : 0 < v) (hq : q = (u * 4294967296 + d) / v) (hr : r = (u * 4294967296 + d) % v) : ∃ x1 x2 x3 : Nat, DivB v u d q x1 x2 x3 r := by
  have e := Nat.div_add_mod (u * 4294967296 + d) v
  rw [← hq, ← hr] at e
  have hlt : r < v := by rw [hr]; exact Nat.mod_lt _ hp
  clear hq hr
  rw [Nat.mul_comm] at e
  generalize hz : q * v = z at e
  refine ⟨u * 4294967296 % 18446744073709551616, (u * 4294967296 % 18446744073709551616 + d) % 18446744073709551616, q * v % 18446744073709551616, ?_, ?_, ?_, ?_⟩
  · exact u64_mul_nat u 4294967296 _ rfl
  · exact u64_nat _ _ rfl
  · exact u64_mul_nat q v _ rfl
  · rw [u64_wrap, hz]; omega
end Go.Proofs.YthmdobajilladaaDoor
