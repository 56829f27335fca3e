/- Plain arithmetic on pairs of cells as integers modulo 2 to the 128. No Go text is spoken of. What the comparison of two pairs as whole structs comes to. No condition. Plain arithmetic: the division of two digits by one, digit by digit (Knuth's), and signed quotients. No Go text is spoken of. Plain arithmetic: what each step of the library's long division computes, in natural numbers. No Go text is spoken of. Layer 2 (package pair): sums, halves, order. Condition: cells are integers of 64 bits. Layer 2: bits.Div64, by Knuth's long division. Condition: the high word is less than the divisor. Layer 2 (package pair): halves, products, and the division without signs. Condition: cells are integers of 64 bits. The document's answers for layer 2 (package rhytonref02), over integers. Condition: cells are integers of 64 bits. The document's answers for layer 2: what holds a pair beside a call; the loops. Condition: cells are integers of 64 bits. The document's answers for layer 2: the long division, bit by bit. Condition: cells are integers of 64 bits, and the divisor is not 0. Layer 2 (package pair): the signed product, and the long division in words. Condition: cells are integers of 64 bits. Layer 2 (package pair): the division of signed numbers that rounds towards 0. Condition: cells are integers of 64 bits, the divisor is not 0. Layer 2 (package pair): the three divisions. Condition: cells are integers of 64 bits. Layer 2 (package pair): the division that rounds down, and the one without signs. Condition: cells are integers of 64 bits. -/
import Derived.Test.YtegcecpmdgljpaaGreatDoorNum
import Derived.Test.YtegcecpmdgljpaaGreatDoorStruct
import Derived.Lib.ItoaNum
import Derived.Laws.Bits64b
import Derived.Laws.Externs
import Derived.Shelf.Spec.BitsCarry
import Derived.Test.YtegcecpmdgljpaaGreatDoorShelfBits
import Derived.Deep.DeepCutAuto
import Derived.Deep.CutBlock
import Derived.Deep.RegionHeld3
namespace Go.Proofs.YtegcecpmdgljpaaGreatDoor
open Go.RowKit
set_option linter.unusedVariables false

/-- The low and the high cell of an integer (modulo 2 to the 128). -/
def lo (n : Int) : Int := wrap64 n
def hi (n : Int) : Int := wrap64 (n / 18446744073709551616)
/-- A cell without its sign; a pair's number with its sign, and without. -/
def U (a : Int) : Int := a % 18446744073709551616
def V (l h : Int) : Int := h * 18446744073709551616 + U l
def W (l h : Int) : Int := U h * 18446744073709551616 + U l

theorem lo_i64 (n : Int) : I64 (lo n) := i64_wrap _
theorem hi_i64 (n : Int) : I64 (hi n) := i64_wrap _
theorem lo_off (n k : Int) : lo (n + 340282366920938463463374607431768211456 * k) = lo n := by unfold lo wrap64; omega
theorem hi_off (n k : Int) : hi (n + 340282366920938463463374607431768211456 * k) = hi n := by unfold hi wrap64; omega
theorem lo_V {l h : Int} (hl : I64 l) : lo (V l h) = l := by unfold lo V U wrap64; unfold I64 at hl; omega
theorem hi_V {l h : Int} (hh : I64 h) : hi (V l h) = h := by unfold hi V U wrap64; unfold I64 at hh; omega
theorem V_mk (n : Int) : ∃ k, V (lo n) (hi n) = n + 340282366920938463463374607431768211456 * k := by
  refine ⟨(V (lo n) (hi n) - n) / 340282366920938463463374607431768211456, ?_⟩
  unfold V U lo hi wrap64
  omega
theorem W_V (l h : Int) : ∃ k, W l h = V l h + 340282366920938463463374607431768211456 * k := by
  refine ⟨-(h / 18446744073709551616), ?_⟩
  unfold V W U
  omega
theorem V_bd {l h : Int} (hh : I64 h) : -170141183460469231731687303715884105728 ≤ V l h ∧ V l h ≤ 170141183460469231731687303715884105727 := by
  unfold V U; unfold I64 at hh; omega
theorem W_bd (l h : Int) : 0 ≤ W l h ∧ W l h ≤ 340282366920938463463374607431768211455 := by unfold W U; omega
theorem U_bd (a : Int) : 0 ≤ U a ∧ U a ≤ 18446744073709551615 := by unfold U; omega
/-- Two numbers that are the same modulo 2 to the 128 are one pair. -/
theorem same {n m : Int} (k : Int) (h : n = m + 340282366920938463463374607431768211456 * k) : lo n = lo m ∧ hi n = hi m := by
  rw [h]; exact ⟨lo_off m k, hi_off m k⟩
theorem same_add (n m : Int) : lo (V (lo n) (hi n) + m) = lo (n + m) ∧ hi (V (lo n) (hi n) + m) = hi (n + m) := by
  obtain ⟨k, hk⟩ := V_mk n
  exact same k (by rw [hk]; omega)
theorem pair_eq {l h l' h' : Int} (hl : I64 l) (hl' : I64 l') (hh : I64 h) (hh' : I64 h') : V l h = V l' h' ↔ l = l' ∧ h = h' := by
  unfold V U; unfold I64 at *; omega

/-! ### sums, halves -/
theorem of_is (a : Int) (ha : I64 a) : lo a = a ∧ hi a = if a < 0 then -1 else 0 := by
  unfold lo hi wrap64; unfold I64 at ha; split <;> omega
theorem V_of (a : Int) (ha : I64 a) : V a (if a < 0 then -1 else 0) = a := by unfold V U; unfold I64 at ha; split <;> omega
theorem add_is (a b c d : Int) (ha : I64 a) (hb : I64 b) (hc : I64 c) (hd : I64 d) :
    lo (V a b + V c d) = wrap64 (a + c) ∧ hi (V a b + V c d) = if U (wrap64 (a + c)) < U a then wrap64 (wrap64 (b + d) + 1) else wrap64 (b + d) := by
  unfold lo hi V U wrap64; unfold I64 at *
  refine ⟨by omega, ?_⟩
  split <;> omega
theorem not_is (a b : Int) (ha : I64 a) (hb : I64 b) : V (wrap64 (-1 - a)) (wrap64 (-1 - b)) = -1 - V a b := by
  unfold V U wrap64; unfold I64 at *; omega
theorem half_is (a b : Int) (ha : I64 a) (hb : I64 b) : lo (V a b / 2) = wrap64 (U a / 2 + 9223372036854775808 * (b % 2)) ∧ hi (V a b / 2) = b / 2 := by
  unfold lo hi V U wrap64; unfold I64 at *; omega
theorem V_neg (a b : Int) (ha : I64 a) (hb : I64 b) : V a b < 0 ↔ b < 0 := by unfold V U; unfold I64 at *; omega
theorem V_less (a b c d : Int) (ha : I64 a) (hb : I64 b) (hc : I64 c) (hd : I64 d) : V a b < V c d ↔ (b < d ∨ (b = d ∧ U a < U c)) := by
  unfold V U; unfold I64 at *; omega
theorem W_less (a b c d : Int) : W a b < W c d ↔ (U b < U d ∨ (U b = U d ∧ U a < U c)) := by
  unfold W U; omega
theorem U_inj {a b : Int} (ha : I64 a) (hb : I64 b) : U a = U b ↔ a = b := by unfold U; unfold I64 at *; omega
end Go.Proofs.YtegcecpmdgljpaaGreatDoor

namespace Go.Proofs.YtegcecpmdgljpaaGreatDoor
open Go.RowKit
set_option linter.unusedVariables false

set_option maxRecDepth 100000 in
@[go_sem] theorem eq_pair (a b c d : Int) (w : World) : (Op.equalIn 10000 44 (.agg #[.int .i64 a, .int .i64 b]) (.agg #[.int .i64 c, .int .i64 d])).run Tryz.prog w = .ok (a == c && b == d) w := by
  have u3 := Tryz.underlying37
  have a3 := Tryz.isAgg37
  have z3 := Tryz.sizeOf37
  have hS : Tryz.prog.underlying 44 = some (.struct (Tryz.prog.fieldsOf 44)) := by kernel_rfl
  have hp : Tryz.prog.stoodInHeld 44 = false := by kernel_rfl
  rw [show (10000 : Nat) = 9999 + 1 from rfl, run_equalIn_agg w 9999 44 _ _ hS hp]
  simp only [Program.fieldsOf, Tryz.underlying44]
  go_simp
  by_cases h1 : a = c <;> by_cases h2 : b = d <;> simp [h1, h2]
@[go_sem ↓] theorem run_pair_eql (a b c d : Int) (w : World) : (binOp .eql 44 (.agg #[.int .i64 a, .int .i64 b]) (.agg #[.int .i64 c, .int .i64 d])).run Tryz.prog w = .ok (.bool (a == c && b == d)) w := by
  rw [run_eql_struct, eq_pair]; rfl
@[go_sem ↓] theorem run_pair_neq (a b c d : Int) (w : World) : (binOp .neq 44 (.agg #[.int .i64 a, .int .i64 b]) (.agg #[.int .i64 c, .int .i64 d])).run Tryz.prog w = .ok (.bool (!(a == c && b == d))) w := by
  rw [run_neq_struct, eq_pair]; rfl
@[go_sem ↓] theorem guard_pair (op : BinOp) (x y : Operand) (xs ys : Array Value) (w : World) : (eqGuard op 44 x y (.agg xs) (.agg ys)).run Tryz.prog w = .ok () w :=
  run_eqGuard_agg w op 44 x y xs ys (by kernel_rfl)
end Go.Proofs.YtegcecpmdgljpaaGreatDoor

namespace Go.Proofs.YtegcecpmdgljpaaGreatDoor
open Go.RowKit
set_option linter.unusedVariables false

/-- A guessed digit q1 with its rest r: what is known of it. -/
structure Guess (v y1 y0 u d q1 r : Nat) : Prop where
  hv : v = y1 * 4294967296 + y0
  h1 : 2147483648 ≤ y1
  h2 : y1 < 4294967296
  h3 : y0 < 4294967296
  hu : u < v
  hd : d < 4294967296
  eq : q1 * y1 + r = u
  ge : (u * 4294967296 + d) / v ≤ q1
  le : q1 ≤ 4294967297
theorem Guess.pos {v y1 y0 u d q1 r : Nat} (g : Guess v y1 y0 u d q1 r) : 0 < v := by have := g.hv; have := g.h1; omega
theorem Guess.small {v y1 y0 u d q1 r : Nat} (g : Guess v y1 y0 u d q1 r) : (u * 4294967296 + d) / v < 4294967296 := by
  rw [Nat.div_lt_iff_lt_mul g.pos]
  have := g.hu; have := g.hd
  calc u * 4294967296 + d < (u + 1) * 4294967296 := by omega
    _ ≤ v * 4294967296 := Nat.mul_le_mul_right _ (by omega)
    _ = 4294967296 * v := Nat.mul_comm _ _
theorem Guess.prod {v y1 y0 u d q1 r : Nat} (g : Guess v y1 y0 u d q1 r) : q1 * v = (u - r) * 4294967296 + q1 * y0 := by
  have e : q1 * y1 = u - r := by have := g.eq; omega
  rw [g.hv, Nat.mul_add, ← Nat.mul_assoc, e]
theorem Guess.first {v y1 y0 u d : Nat} (hv : v = y1 * 4294967296 + y0) (h1 : 2147483648 ≤ y1) (h2 : y1 < 4294967296) (h3 : y0 < 4294967296) (hu : u < v) (hd : d < 4294967296) :
    Guess v y1 y0 u d (u / y1) (u % y1) := by
  have hp : 0 < y1 := by omega
  have hvp : 0 < v := by omega
  refine ⟨hv, h1, h2, h3, hu, hd, by rw [Nat.mul_comm]; exact Nat.div_add_mod u y1, ?_, ?_⟩
  · rw [Nat.le_div_iff_mul_le hp]
    have e := Nat.div_mul_le_self (u * 4294967296 + d) v
    generalize (u * 4294967296 + d) / v = q at *
    have e2 : q * v = (q * y1) * 4294967296 + q * y0 := by rw [hv, Nat.mul_add, ← Nat.mul_assoc]
    omega
  · have : u / y1 < 4294967298 := by
      rw [Nat.div_lt_iff_lt_mul hp]
      omega
    omega
theorem Guess.more {v y1 y0 u d q1 r : Nat} (g : Guess v y1 y0 u d q1 r) (h : 4294967296 ≤ q1 ∨ 4294967296 * r + d < q1 * y0) : (u * 4294967296 + d) / v < q1 := by
  rcases h with h | h
  · have := g.small; omega
  · rw [Nat.div_lt_iff_lt_mul g.pos, g.prod]
    have := g.eq
    omega
theorem Guess.done {v y1 y0 u d q1 r : Nat} (g : Guess v y1 y0 u d q1 r) (h : q1 * y0 ≤ 4294967296 * r + d) : q1 = (u * 4294967296 + d) / v := by
  have h1 : q1 ≤ (u * 4294967296 + d) / v := by
    rw [Nat.le_div_iff_mul_le g.pos, g.prod]
    have := g.eq
    omega
  have := g.ge
  omega
theorem Guess.next {v y1 y0 u d q1 r : Nat} (g : Guess v y1 y0 u d q1 r) (h : (u * 4294967296 + d) / v < q1) : Guess v y1 y0 u d (q1 - 1) (r + y1) := by
  refine ⟨g.hv, g.h1, g.h2, g.h3, g.hu, g.hd, ?_, Nat.le_sub_one_of_lt h, Nat.le_trans (Nat.sub_le _ _) g.le⟩
  have hq : 0 < q1 := Nat.lt_of_le_of_lt (Nat.zero_le _) h
  clear h
  have e : (q1 - 1) * y1 + y1 = q1 * y1 := by
    rw [← Nat.succ_mul]; congr 1; omega
  have := g.eq
  omega
theorem Guess.out {v y1 y0 u d q1 r : Nat} (g : Guess v y1 y0 u d q1 r) (h : q1 ≤ 4294967296) (hr : 4294967296 ≤ r) : q1 = (u * 4294967296 + d) / v := by
  refine g.done ?_
  have h1 : q1 * y0 ≤ 4294967296 * y0 := Nat.mul_le_mul_right _ h
  have := g.h3
  omega
/-- Two digits, one after the other, are the quotient and what is left. -/
theorem two_digits (u d1 d0 v : Nat) (hp : 0 < v) : (u * 18446744073709551616 + d1 * 4294967296 + d0) / v = (u * 4294967296 + d1) / v * 4294967296 + ((u * 4294967296 + d1) % v * 4294967296 + d0) / v
    ∧ (u * 18446744073709551616 + d1 * 4294967296 + d0) % v = ((u * 4294967296 + d1) % v * 4294967296 + d0) % v := by
  have e := Nat.div_add_mod (u * 4294967296 + d1) v
  obtain ⟨q, hq⟩ : ∃ q, q = (u * 4294967296 + d1) / v := ⟨_, rfl⟩
  obtain ⟨r, hr⟩ : ∃ r, r = (u * 4294967296 + d1) % v := ⟨_, rfl⟩
  rw [← hq, ← hr] at e ⊢
  have e2 : u * 18446744073709551616 + d1 * 4294967296 + d0 = (r * 4294967296 + d0) + v * (q * 4294967296) := by
    rw [← Nat.mul_assoc]; omega
  rw [e2, Nat.add_mul_div_left _ _ hp, Nat.add_mul_mod_self_left]
  exact ⟨by omega, rfl⟩
theorem scaled (n y p : Nat) (hp : 0 < p) : n * p / (y * p) = n / y ∧ n * p % (y * p) / p = n % y := by
  refine ⟨Nat.mul_div_mul_right _ _ hp, ?_⟩
  rw [Nat.mul_mod_mul_right, Nat.mul_div_cancel _ hp]
/-- What a number of two words is, shifted: its high word, and its low one. -/
theorem shifted (h l p q : Nat) (hpq : p * q = 18446744073709551616) (hp : 0 < p) (hl : l < 18446744073709551616) :
    (h * 18446744073709551616 + l) * p = (h * p + l / q) * 18446744073709551616 + l * p % 18446744073709551616 ∧ l / q < p := by
  have e1 : l * p / 18446744073709551616 = l / q := by
    rw [← hpq, Nat.mul_comm l p, Nat.mul_div_mul_left _ _ hp]
  have e2 := Nat.div_add_mod (l * p) 18446744073709551616
  rw [e1] at e2
  refine ⟨?_, ?_⟩
  · rw [Nat.add_mul, Nat.add_mul, Nat.mul_right_comm]; omega
  · have hq : 0 < q := by
      rcases Nat.eq_zero_or_pos q with h0 | h0
      · subst h0; omega
      · exact h0
    rw [Nat.div_lt_iff_lt_mul hq, hpq]; exact hl
end Go.Proofs.YtegcecpmdgljpaaGreatDoor

namespace Go.Proofs.YtegcecpmdgljpaaGreatDoor
open Go.RowKit
set_option linter.unusedVariables false

theorem u64_nat (n m : Nat) (h : n % 18446744073709551616 = m) : IntKind.u64.wrap (n : Int) = (m : Int) := by
  rw [u64_wrap]; omega
theorem u64_mul_nat (a b m : Nat) (h : a * b % 18446744073709551616 = m) : IntKind.u64.wrap ((a : Int) * (b : Int)) = (m : Int) := by
  rw [← Int.natCast_mul]; exact u64_nat _ _ h
theorem or_add (a l s : Nat) (hl : l < 2 ^ s) (ha : ∃ h, a = h * 2 ^ s) : a ||| l = a + l := by
  obtain ⟨h, rfl⟩ := ha
  rw [Nat.mul_comm, Nat.two_pow_add_eq_or_of_lt hl]
theorem and_mask (m : Nat) (hm : m < 18446744073709551616) : bits .and .u64 (m : Int) 4294967295 = ((m % 4294967296 : Nat) : Int) := by
  have h := bits_and_u64_nat m 4294967295 hm (by omega)
  have e : m &&& 4294967295 = m % 4294967296 := Nat.and_two_pow_sub_one_eq_mod m 32
  rw [e] at h
  exact h
theorem lz_is (Y : Nat) (h0 : 0 < Y) (h1 : Y < 18446744073709551616) : ∃ s : Nat, s < 64 ∧ 64 - (Lib.bitLen Y : Int) = s ∧ 9223372036854775808 ≤ Y * 2 ^ s ∧ Y * 2 ^ s < 18446744073709551616 := by
  obtain ⟨b1, b2, b3⟩ := Lib.bitLenAux_bounds 64 Y (by simpa using h1) (by omega)
  have b4 : Lib.bitLen Y ≤ 64 := Lib.bitLen_le Y 64 (by omega) (by simpa using h1)
  change 1 ≤ Lib.bitLen Y at b1
  change 2 ^ (Lib.bitLen Y - 1) ≤ Y at b2
  change Y < 2 ^ Lib.bitLen Y at b3
  generalize Lib.bitLen Y = n at *
  refine ⟨64 - n, by omega, by omega, ?_, ?_⟩
  · have : 2 ^ (n - 1) * 2 ^ (64 - n) ≤ Y * 2 ^ (64 - n) := Nat.mul_le_mul_right _ b2
    rw [← Nat.pow_add, show n - 1 + (64 - n) = 63 by omega] at this
    exact this
  · have : Y * 2 ^ (64 - n) < 2 ^ n * 2 ^ (64 - n) := Nat.mul_lt_mul_of_pos_right b3 (Nat.two_pow_pos _)
    rw [← Nat.pow_add, show n + (64 - n) = 64 by omega] at this
    exact this

structure DivA (H L Y s v y1 y0 t l u m d1 d0 a : Nat) : Prop where
  hs : s < 64
  ht : 1 ≤ t ∧ t ≤ 64
  lz : 64 - (Lib.bitLen Y : Int) = s
  ev : IntKind.u64.wrap ((Y : Int) * 2 ^ s) = (v : Int)
  ey1 : (v : Int) / 4294967296 = (y1 : Int)
  ey0 : bits .and .u64 (v : Int) 4294967295 = (y0 : Int)
  ea : IntKind.u64.wrap ((H : Int) * 2 ^ s) = (a : Int)
  et : IntKind.u64.wrap (64 - (s : Int)) = (t : Int)
  el : (L : Int) / 2 ^ t = (l : Int)
  eo : bits .or .u64 (a : Int) (l : Int) = (u : Int)
  em : IntKind.u64.wrap ((L : Int) * 2 ^ s) = (m : Int)
  ed1 : (m : Int) / 4294967296 = (d1 : Int)
  ed0 : bits .and .u64 (m : Int) 4294967295 = (d0 : Int)
  g : ∀ q r, q = u / y1 → r = u % y1 → Guess v y1 y0 u d1 q r
  hd0 : d0 < 4294967296
  hv : v < 18446744073709551616
  qt : (H * 18446744073709551616 + L) / Y = (u * 4294967296 + d1) / v * 4294967296 + ((u * 4294967296 + d1) % v * 4294967296 + d0) / v
  rt : (H * 18446744073709551616 + L) % Y = ((u * 4294967296 + d1) % v * 4294967296 + d0) % v / 2 ^ s
theorem div_a (H L Y : Nat) (hh : H < Y) (hl : L < 18446744073709551616) (hy : Y < 18446744073709551616) : ∃ s v y1 y0 t l u m d1 d0 a : Nat, DivA H L Y s v y1 y0 t l u m d1 d0 a := by
  obtain ⟨s, hs, hlz, v0, v1⟩ := lz_is Y (by omega) hy
  have hpq : 2 ^ s * 2 ^ (64 - s) = 18446744073709551616 := by rw [← Nat.pow_add, show s + (64 - s) = 64 by omega]
  have hp : 0 < 2 ^ s := Nat.two_pow_pos _
  obtain ⟨e1, e2⟩ := shifted H L (2 ^ s) (2 ^ (64 - s)) hpq hp hl
  have ha : H * 2 ^ s < Y * 2 ^ s := Nat.mul_lt_mul_of_pos_right hh hp
  obtain ⟨v, hv⟩ : ∃ v, v = Y * 2 ^ s := ⟨_, rfl⟩
  obtain ⟨m, hm⟩ : ∃ m, m = L * 2 ^ s % 18446744073709551616 := ⟨_, rfl⟩
  obtain ⟨l, hll⟩ : ∃ l, l = L / 2 ^ (64 - s) := ⟨_, rfl⟩
  obtain ⟨a, haa⟩ : ∃ a, a = H * 2 ^ s := ⟨_, rfl⟩
  have hm2 : m < 18446744073709551616 := by omega
  have hN : (H * 18446744073709551616 + L) * 2 ^ s < v * 18446744073709551616 := by
    rw [hv, Nat.mul_right_comm]
    refine Nat.mul_lt_mul_of_pos_right ?_ hp
    omega
  have hu : a + l < v := by
    rw [e1, ← hm, ← haa, ← hll] at hN
    omega
  have eN : (H * 18446744073709551616 + L) * 2 ^ s = (a + l) * 18446744073709551616 + m / 4294967296 * 4294967296 + m % 4294967296 := by
    rw [e1, ← hm, ← haa, ← hll]; omega
  have hvp : 0 < v := by omega
  obtain ⟨t1, t2⟩ := two_digits (a + l) (m / 4294967296) (m % 4294967296) v hvp
  obtain ⟨s1, s2⟩ := scaled (H * 18446744073709551616 + L) Y (2 ^ s) hp
  rw [← hv, eN] at s1 s2
  rw [← hv] at v0 v1 ha
  rw [← haa] at ha
  refine ⟨s, v, v / 4294967296, v % 4294967296, 64 - s, l, a + l, m, m / 4294967296, m % 4294967296, a, ?_⟩
  refine ⟨hs, by omega, hlz, ?_, by omega, and_mask v v1, ?_, ?_, ?_, ?_, ?_, by omega, and_mask m hm2, ?_, by omega, v1, ?_, ?_⟩
  · have := u64_mul_nat Y (2 ^ s) v (by rw [← hv]; exact Nat.mod_eq_of_lt v1)
    rwa [Int.natCast_pow] at this
  · have := u64_mul_nat H (2 ^ s) a (by rw [← haa]; exact Nat.mod_eq_of_lt (by omega))
    rwa [Int.natCast_pow] at this
  · rw [u64_wrap]; omega
  · rw [hll, Int.natCast_ediv, Int.natCast_pow]; rfl
  · rw [bits_or_u64_nat a l (by omega) (by omega), or_add a l s (by rw [hll]; exact e2) ⟨H, haa⟩]
  · have := u64_mul_nat L (2 ^ s) m hm.symm
    rwa [Int.natCast_pow] at this
  · rintro q r rfl rfl
    exact Guess.first (by omega) (by omega) (by omega) (by omega) hu (by omega)
  · rw [← s1, t1]
  · rw [← s2, t2]

structure DivB (v u d q x1 x2 x3 r : Nat) : Prop where
  e1 : IntKind.u64.wrap ((u : Int) * 4294967296) = (x1 : Int)
  e2 : IntKind.u64.wrap ((x1 : Int) + (d : Int)) = (x2 : Int)
  e3 : IntKind.u64.wrap ((q : Int) * (v : Int)) = (x3 : Int)
  e4 : IntKind.u64.wrap ((x2 : Int) - (x3 : Int)) = (r : Int)
theorem div_b (v u d q r : Nat) (hv : v < 18446744073709551616) (hp : 0 < v) (hq : q = (u * 4294967296 + d) / v) (hr : r = (u * 4294967296 + d) % v) : ∃ x1 x2 x3 : Nat, DivB v u d q x1 x2 x3 r := by
  have e := Nat.div_add_mod (u * 4294967296 + d) v
  rw [← hq, ← hr] at e
  have hlt : r < v := by rw [hr]; exact Nat.mod_lt _ hp
  clear hq hr
  rw [Nat.mul_comm] at e
  generalize hz : q * v = z at e
  refine ⟨u * 4294967296 % 18446744073709551616, (u * 4294967296 % 18446744073709551616 + d) % 18446744073709551616, q * v % 18446744073709551616, ?_, ?_, ?_, ?_⟩
  · exact u64_mul_nat u 4294967296 _ rfl
  · exact u64_nat _ _ rfl
  · exact u64_mul_nat q v _ rfl
  · rw [u64_wrap, hz]; omega
end Go.Proofs.YtegcecpmdgljpaaGreatDoor

namespace Go.Proofs.YtegcecpmdgljpaaGreatDoor
open Go.RowKit
set_option linter.unusedVariables false

theorem p_ret_pair {a b c d : Int} (h : a = c) (k : b = d) : Ending.returned (.agg #[.int .i64 a, .int .i64 b]) = .returned (.agg #[.int .i64 c, .int .i64 d]) := by rw [h, k]

theorem run_add_carry (x y c : Int) (hx : 0 ≤ x) (hy : 0 ≤ y) (hc0 : 0 ≤ c) (hc : c ≤ 1) (w : World) :
    (callFunc 197 #[.int .u64 x, .int .u64 y, .int .u64 c]).run Tryz.prog w = .ok (.value (.tuple #[.int .u64 ((x + y + c) % 18446744073709551616), .int .u64 ((x + y + c) / 18446744073709551616)])) w := by
  rw [run_callFunc_extern Tryz.func197 (by kernel_rfl) (by kernel_rfl) (by kernel_rfl) (e := add64Entry) (by kernel_rfl), run_add64 x y c hx hy hc0 hc]
  rfl
/-- 0 less a number, less a borrow. -/
theorem run_sub_borrow (y b : Int) (hy : 0 ≤ y) (hy1 : y ≤ 18446744073709551615) (hb0 : 0 ≤ b) (hb : b ≤ 1) (w : World) :
    (callFunc 199 #[.int .u64 0, .int .u64 y, .int .u64 b]).run Tryz.prog w = .ok (.value (.tuple #[.int .u64 ((-y - b) % 18446744073709551616), .int .u64 (if 0 < y + b then 1 else 0)])) w := by
  obtain ⟨Y, rfl⟩ := Int.eq_ofNat_of_zero_le hy
  obtain ⟨B, rfl⟩ := Int.eq_ofNat_of_zero_le hb0
  have h := run_sub64 (P := Tryz.prog) 0 Y B (by omega) w
  rw [run_callFunc_extern Tryz.func199 (by kernel_rfl) (by kernel_rfl) (by kernel_rfl) (e := sub64Entry) (by kernel_rfl)]
  rw [show ((0 : Nat) : Int) = 0 from rfl] at h
  rw [h]
  simp only [Result.andThen]
  congr 6
  · omega
  · split <;> split <;> first | rfl | omega

theorem frombits_calls (w0 : World) (x y : Int) (w : World) (h : Ext w0 w) : Calls Tryz.prog 198 #[.int .u64 x, .int .u64 y] w fun e w' => e = .returned (.agg #[.int .i64 (wrap64 y), .int .i64 (wrap64 x)]) ∧ Ext w0 w' := by
  go_enter Tryz.func198, Tryz.ntmps198
  go_wp2
  exact bodyPost_ret (v := .agg #[.int .i64 (wrap64 y), .int .i64 (wrap64 x)]) (by simp [results, Tryz.results198, go_sem]) rfl ⟨rfl, h.cells _ _⟩

theorem sum_is (a b c d : Int) (ha : I64 a) (hb : I64 b) (hc : I64 c) (hd : I64 d) :
    wrap64 ((U a + U c + 0) % 18446744073709551616) = lo (V a b + V c d) ∧ wrap64 ((U b + U d + (U a + U c + 0) / 18446744073709551616) % 18446744073709551616) = hi (V a b + V c d) := by
  unfold lo hi V U wrap64; unfold I64 at *
  refine ⟨by omega, by omega⟩
theorem neg_is (a b : Int) (ha : I64 a) (hb : I64 b) :
    wrap64 ((-U a - 0) % 18446744073709551616) = lo (-V a b) ∧ wrap64 ((-U b - (if 0 < U a + 0 then 1 else 0)) % 18446744073709551616) = hi (-V a b) := by
  unfold lo hi V U wrap64; unfold I64 at *
  refine ⟨by omega, by split <;> omega⟩
set_option maxRecDepth 100000 in
theorem add_calls (w0 : World) (a b c d : Int) (ha : I64 a) (hb : I64 b) (hc : I64 c) (hd : I64 d) (w : World) (h : Ext w0 w) :
    Calls Tryz.prog 102 #[.agg #[.int .i64 a, .int .i64 b], .agg #[.int .i64 c, .int .i64 d]] w fun e w' => e = .returned (.agg #[.int .i64 (lo (V a b + V c d)), .int .i64 (hi (V a b + V c d))]) ∧ Ext w0 w' := by
  obtain ⟨e1, e2⟩ := sum_is a b c d ha hb hc hd
  rw [← e1, ← e2]
  clear e1 e2
  have ba := U_bd a
  have bb := U_bd b
  have bc := U_bd c
  have bd := U_bd d
  have r1 := run_add_carry (U a) (U c) 0 ba.1 bc.1 (by omega) (by omega)
  have r2 := run_add_carry (U b) (U d) ((U a + U c + 0) / 18446744073709551616) bb.1 bd.1 (by omega) (by omega)
  have ea : IntKind.u64.wrap a = U a := u64_wrap a
  have eb : IntKind.u64.wrap b = U b := u64_wrap b
  have ec : IntKind.u64.wrap c = U c := u64_wrap c
  have ed : IntKind.u64.wrap d = U d := u64_wrap d
  clear ba bb bc bd ha hb hc hd
  obtain ⟨s, es⟩ : ∃ s, s = (U a + U c + 0) % 18446744073709551616 := ⟨_, rfl⟩
  obtain ⟨k, ek⟩ : ∃ s, s = (U a + U c + 0) / 18446744073709551616 := ⟨_, rfl⟩
  rw [← es, ← ek] at r1
  rw [← ek] at r2
  rw [← es, ← ek]
  clear es ek
  obtain ⟨t, et⟩ : ∃ s, s = (U b + U d + k) % 18446744073709551616 := ⟨_, rfl⟩
  obtain ⟨j, ej⟩ : ∃ s, s = (U b + U d + k) / 18446744073709551616 := ⟨_, rfl⟩
  rw [← et, ← ej] at r2
  rw [← et]
  clear et ej
  go_enter Tryz.func102, Tryz.ntmps102
  go_wp2_with fail
  refine (frombits_calls _ _ _ _ (Ext.refl _)).mono ?_
  rintro e w' ⟨rfl, hx⟩
  have hX := (((h.cells _ _).cells _ _).cells _ _).trans hx
  obtain ⟨c0, c1, f0, f1, hs⟩ := ext_last2 hx
  simp only [size_alloc] at c0 c1 f0 f1 hs
  have hs0 := h.1.size
  clear hx
  go_wp2
  exact bodyPost_ret (v := .agg #[.int .i64 (wrap64 s), .int .i64 (wrap64 t)]) (by simp [results, Tryz.results102, go_sem, c0, c1]) rfl ⟨rfl, (hX.setCell (by simp; omega) _).setCell (by simp; omega) _⟩

set_option maxRecDepth 100000 in
theorem neg_calls (w0 : World) (a b : Int) (ha : I64 a) (hb : I64 b) (w : World) (h : Ext w0 w) :
    Calls Tryz.prog 104 #[.agg #[.int .i64 a, .int .i64 b]] w fun e w' => e = .returned (.agg #[.int .i64 (lo (-V a b)), .int .i64 (hi (-V a b))]) ∧ Ext w0 w' := by
  obtain ⟨e1, e2⟩ := neg_is a b ha hb
  rw [← e1, ← e2]
  clear e1 e2
  have ba := U_bd a
  have bb := U_bd b
  have hk : 0 ≤ (if 0 < U a + 0 then (1 : Int) else 0) ∧ (if 0 < U a + 0 then (1 : Int) else 0) ≤ 1 := by split <;> omega
  have r1 := run_sub_borrow (U a) 0 ba.1 ba.2 (by omega) (by omega)
  have r2 := run_sub_borrow (U b) (if 0 < U a + 0 then 1 else 0) bb.1 bb.2 hk.1 hk.2
  have ea : IntKind.u64.wrap a = U a := u64_wrap a
  have eb : IntKind.u64.wrap b = U b := u64_wrap b
  clear ba bb hk ha hb
  obtain ⟨k, ek⟩ : ∃ s : Int, s = (if 0 < U a + 0 then 1 else 0) := ⟨_, rfl⟩
  obtain ⟨s, es⟩ : ∃ s, s = (-U a - 0) % 18446744073709551616 := ⟨_, rfl⟩
  rw [← es, ← ek] at r1
  rw [← ek] at r2
  rw [← es, ← ek]
  clear es ek
  obtain ⟨t, et⟩ : ∃ s, s = (-U b - k) % 18446744073709551616 := ⟨_, rfl⟩
  obtain ⟨j, ej⟩ : ∃ s : Int, s = (if 0 < U b + k then 1 else 0) := ⟨_, rfl⟩
  rw [← et, ← ej] at r2
  rw [← et]
  clear et ej
  go_enter Tryz.func104, Tryz.ntmps104
  go_wp2_with fail
  refine (frombits_calls _ _ _ _ (Ext.refl _)).mono ?_
  rintro e w' ⟨rfl, hx⟩
  have hX := ((h.cells _ _).cells _ _).trans hx
  obtain ⟨c0, c1, f0, f1, hs⟩ := ext_last2 hx
  simp only [size_alloc] at c0 c1 f0 f1 hs
  have hs0 := h.1.size
  clear hx
  go_wp2
  exact bodyPost_ret (v := .agg #[.int .i64 (wrap64 s), .int .i64 (wrap64 t)]) (by simp [results, Tryz.results104, go_sem, c0, c1]) rfl ⟨rfl, (hX.setCell (by simp; omega) _).setCell (by simp; omega) _⟩
theorem twice_calls (w0 : World) (a b : Int) (ha : I64 a) (hb : I64 b) (w : World) (h : Ext w0 w) :
    Calls Tryz.prog 111 #[.agg #[.int .i64 a, .int .i64 b]] w fun e w' => e = .returned (.agg #[.int .i64 (lo (2 * V a b)), .int .i64 (hi (2 * V a b))]) ∧ Ext w0 w' := by
  have hc := Lib.hid (fun w => add_calls w a b a b ha hb ha hb w (Ext.refl w))
  rw [← Int.two_mul] at hc
  clear ha hb
  go_enter Tryz.func111, Tryz.ntmps111
  go_wp2_with fail
  refine (hc.out _).mono ?_
  rintro e w' ⟨rfl, hx⟩
  have hX := ((h.cells _ _).cells _ _).trans hx
  obtain ⟨c0, c1, f0, f1, hs⟩ := ext_last2 hx
  simp only [size_alloc] at c0 c1 f0 f1 hs
  have hs0 := h.1.size
  clear hx hc
  go_wp2
  exact bodyPost_ret (v := .agg #[.int .i64 (lo (2 * V a b)), .int .i64 (hi (2 * V a b))]) (by simp [results, Tryz.results111, go_sem, c0, c1]) rfl ⟨rfl, (hX.setCell (by simp; omega) _).setCell (by simp; omega) _⟩

theorem shr63 (a : Int) (ha : I64 a) : a / 9223372036854775808 = if a < 0 then -1 else 0 := by unfold I64 at ha; split <;> omega
theorem of_calls (w0 : World) (a : Int) (ha : I64 a) (w : World) (h : Ext w0 w) : Calls Tryz.prog 100 #[.int .i64 a] w fun e w' => e = .returned (.agg #[.int .i64 (lo a), .int .i64 (hi a)]) ∧ Ext w0 w' := by
  rw [(of_is a ha).1, (of_is a ha).2, ← shr63 a ha]
  clear ha
  go_enter Tryz.func100, Tryz.ntmps100
  go_wp2
  exact bodyPost_ret (v := .agg #[.int .i64 a, .int .i64 (a / 9223372036854775808)]) (by simp [results, Tryz.results100, go_sem]) rfl ⟨rfl, h.cells _ _⟩
theorem less_calls (w0 : World) (a b c d : Int) (ha : I64 a) (hb : I64 b) (hc : I64 c) (hd : I64 d) (w : World) (h : Ext w0 w) :
    Calls Tryz.prog 108 #[.agg #[.int .i64 a, .int .i64 b], .agg #[.int .i64 c, .int .i64 d]] w fun e w' => e = .returned (.bool (decide (V a b < V c d))) ∧ Ext w0 w' := by
  have e := V_less a b c d ha hb hc hd
  have ea : IntKind.u64.wrap a = U a := u64_wrap a
  have ec : IntKind.u64.wrap c = U c := u64_wrap c
  by_cases hq : b = d
  · subst hq
    have e1 : decide (V a b < V c b) = decide (U a < U c) := by rw [decide_eq_decide, e]; omega
    rw [e1]
    clear e e1 ha hb hc hd
    go_enter Tryz.func108, Tryz.ntmps108
    go_wp2
    go_ret
    exact ⟨rfl, (h.cells _ _).cells _ _⟩
  · have e1 : decide (V a b < V c d) = decide (b < d) := by rw [decide_eq_decide, e]; omega
    have hq' : (b != d) = true := by simpa using hq
    rw [e1]
    clear e e1 ha hb hc hd hq
    go_enter Tryz.func108, Tryz.ntmps108
    go_wp2
    go_ret
    exact ⟨rfl, (h.cells _ _).cells _ _⟩
theorem uless_calls (w0 : World) (a b c d : Int) (ha : I64 a) (hb : I64 b) (hc : I64 c) (hd : I64 d) (w : World) (h : Ext w0 w) :
    Calls Tryz.prog 109 #[.agg #[.int .i64 a, .int .i64 b], .agg #[.int .i64 c, .int .i64 d]] w fun e w' => e = .returned (.bool (decide (W a b < W c d))) ∧ Ext w0 w' := by
  have e := W_less a b c d
  have e0 := U_inj hb hd
  have ea : IntKind.u64.wrap a = U a := u64_wrap a
  have ec : IntKind.u64.wrap c = U c := u64_wrap c
  have eb : IntKind.u64.wrap b = U b := u64_wrap b
  have ed : IntKind.u64.wrap d = U d := u64_wrap d
  by_cases hq : b = d
  · subst hq
    have e1 : decide (W a b < W c b) = decide (U a < U c) := by rw [decide_eq_decide, e]; omega
    rw [e1]
    clear e e0 e1 ha hb hc hd eb ed
    go_enter Tryz.func109, Tryz.ntmps109
    go_wp2
    go_ret
    exact ⟨rfl, (h.cells _ _).cells _ _⟩
  · have e1 : decide (W a b < W c d) = decide (U b < U d) := by rw [decide_eq_decide, e]; omega
    have hq' : (b != d) = true := by simpa using hq
    rw [e1]
    clear e e0 e1 ha hb hc hd hq ea ec
    go_enter Tryz.func109, Tryz.ntmps109
    go_wp2
    go_ret
    exact ⟨rfl, (h.cells _ _).cells _ _⟩
end Go.Proofs.YtegcecpmdgljpaaGreatDoor

namespace Go.Proofs.YtegcecpmdgljpaaGreatDoor
open Go.RowKit
set_option linter.unusedVariables false
theorem div64_zero (w0 : World) (L Y : Nat) (hl : L < 18446744073709551616) (hy : Y < 18446744073709551616) (hp : 0 < Y) (w : World) (h : Ext w0 w) :
    Calls Tryz.prog 236 #[.int .u64 0, .int .u64 (L : Int), .int .u64 (Y : Int)] w fun e w' => e = .returned (.tuple #[.int .u64 ((L / Y : Nat) : Int), .int .u64 ((L % Y : Nat) : Int)]) ∧ Ext w0 w' := by
  have z1 : ((Y : Int) == 0) = false := by simp; omega
  have hp1 : ¬ (Y : Int) ≤ 0 := by omega
  have b1 : (L : Int) ≤ 18446744073709551615 := by omega
  have b2 : (Y : Int) ≤ 18446744073709551615 := by omega
  have b3 : (1 : Int) ≤ Y := by omega
  have b4 : (0 : Int) ≤ L := by omega
  have eq : IntKind.u64.wrap ((L : Int) / (Y : Int)) = ((L / Y : Nat) : Int) := by
    rw [← Int.natCast_ediv]
    exact u64_nat _ _ (Nat.mod_eq_of_lt (Nat.lt_of_le_of_lt (Nat.div_le_self _ _) hl))
  have er : (L : Int) % (Y : Int) = ((L % Y : Nat) : Int) := by rw [Int.natCast_emod]
  obtain ⟨q, hq⟩ : ∃ q, q = L / Y := ⟨_, rfl⟩
  obtain ⟨r, hr⟩ : ∃ r, r = L % Y := ⟨_, rfl⟩
  rw [← hq] at eq ⊢
  rw [← hr] at er ⊢
  clear hl hy hq hr
  go_enter Tryz.func236, Tryz.ntmps236
  go_wp2_with fail
  go_region
  go_wp2
  go_ret2
  refine ⟨?_, h.drew⟩
  show Ending.returned (.tuple #[.int .u64 (q : Int), .int .u64 ((L : Int) % (Y : Int))]) = _
  rw [er]
theorem lz_calls (Y s : Nat) (hy : Y < 18446744073709551616) (hs : 64 - (Lib.bitLen Y : Int) = s) (w : World) : Calls Tryz.prog 252 #[.int .u64 (Y : Int)] w fun e w' => e = .returned (.int .i64 (s : Int)) ∧ w = w' := by
  refine (Tryz.bits_LeadingZeros64 (Y : Int) w (by omega) (by omega)).mono ?_
  rintro e w' ⟨rfl, rfl⟩
  rw [Int.toNat_natCast, hs]
  exact ⟨rfl, rfl⟩
theorem guess_test (Q y0 R d : Nat) (hQ : Q < 4294967296) (h0 : y0 < 4294967296) (hR : R < 4294967296) (hd : d < 4294967296) :
    ∃ P R1 R2 : Nat, IntKind.u64.wrap ((Q : Int) * (y0 : Int)) = (P : Int) ∧ IntKind.u64.wrap (4294967296 * (R : Int)) = (R1 : Int) ∧ IntKind.u64.wrap ((R1 : Int) + (d : Int)) = (R2 : Int) ∧ P = Q * y0 ∧ R2 = 4294967296 * R + d := by
  have h : Q * y0 < 4294967296 * 4294967296 := Nat.mul_lt_mul'' hQ h0
  refine ⟨Q * y0, 4294967296 * R, 4294967296 * R + d, u64_mul_nat _ _ _ (Nat.mod_eq_of_lt (by omega)), ?_, ?_, rfl, rfl⟩
  · rw [u64_wrap]; omega
  · rw [u64_wrap]; omega
set_option maxRecDepth 100000 in
set_option maxHeartbeats 4000000 in
theorem div64_big (H L Y : Nat) (hh : H < Y) (hl : L < 18446744073709551616) (hy : Y < 18446744073709551616) (hp : 0 < H) (w : World) :
    Calls Tryz.prog 236 #[.int .u64 (H : Int), .int .u64 (L : Int), .int .u64 (Y : Int)] w fun e w' => e = .returned (.tuple #[.int .u64 (((H * 18446744073709551616 + L) / Y : Nat) : Int), .int .u64 (((H * 18446744073709551616 + L) % Y : Nat) : Int)]) ∧ w = w' := by
  obtain ⟨s, v, y1, y0, t, l, u, m, d1, d0, a, F⟩ := div_a H L Y hh hl hy
  have HF := Lib.hid F
  have hlz := Lib.hid (lz_calls Y s hy F.lz)
  have z1 : ((Y : Int) == 0) = false := by simp; omega
  have z2 : ((H : Int) == 0) = false := by simp; omega
  have z3 : decide (Y ≤ H) = false := by simp; omega
  have z4 : ¬ Y ≤ H := by omega
  have es : IntKind.u64.wrap (s : Int) = (s : Int) := u64_nat _ _ (by have := F.hs; omega)
  have es2 : min s 64 = s := by have := F.hs; omega
  have et2 : min t 64 = t := by have := F.ht; omega
  have g := F.g _ _ rfl rfl
  have y1p : ¬ y1 = 0 := by have := g.h1; omega
  have y1q : (1 : Int) ≤ (y1 : Int) := by omega
  have y1r : ((y1 : Int) == 0) = false := by simp; omega
  have hq1 : IntKind.u64.wrap ((u : Int) / (y1 : Int)) = ((u / y1 : Nat) : Int) := by
    rw [← Int.natCast_ediv]
    exact u64_nat _ _ (Nat.mod_eq_of_lt (Nat.lt_of_le_of_lt (Nat.div_le_self _ _) (by have := g.hu; have := F.hv; omega)))
  have hq2 : IntKind.u64.wrap (((u / y1 : Nat) : Int) * (y1 : Int)) = ((u / y1 * y1 : Nat) : Int) := u64_mul_nat _ _ _ (Nat.mod_eq_of_lt (Nat.lt_of_le_of_lt (Nat.div_mul_le_self _ _) (by have := g.hu; have := F.hv; omega)))
  have hq3 : IntKind.u64.wrap ((u : Int) - ((u / y1 * y1 : Nat) : Int)) = ((u % y1 : Nat) : Int) := by
    have e := Nat.div_add_mod u y1
    rw [Nat.mul_comm] at e
    have h1 : u % y1 < 18446744073709551616 := by have := Nat.mod_lt u (show 0 < y1 by omega); have := g.h2; omega
    generalize u / y1 * y1 = z at *
    generalize u % y1 = r at *
    rw [u64_wrap]; omega
  obtain ⟨qa, hqa⟩ : ∃ q, q = u / y1 := ⟨_, rfl⟩
  obtain ⟨ra, hra⟩ : ∃ r, r = u % y1 := ⟨_, rfl⟩
  obtain ⟨za, hza⟩ : ∃ r, r = u / y1 * y1 := ⟨_, rfl⟩
  rw [← hza] at hq2 hq3
  rw [← hqa] at hq1 hq2 g
  rw [← hra] at hq3 g
  have G := Lib.hid g
  have hra2 : ra < 4294967296 := by have := Nat.mod_lt u (show 0 < y1 by omega); have := g.h2; omega
  clear hza hqa hra g
  have ev := F.ev
  have ey1 := F.ey1
  have ey0 := F.ey0
  have ea := F.ea
  have et := F.et
  have el := F.el
  have eo := F.eo
  have em := F.em
  have ed1 := F.ed1
  have ed0 := F.ed0
  clear hl hy hh hp F
  go_enter Tryz.func236, Tryz.ntmps236
  go_wp2_with fail
  refine (hlz.out _).mono ?_
  rintro e w' ⟨rfl, rfl⟩
  go_upto_block 0 with fail
  go_cut [15, 16] (fun q r wx => ∃ Q R : Nat, q = .int .u64 (Q : Int) ∧ r = .int .u64 (R : Int) ∧ Q = (u * 4294967296 + d1) / v ∧ wx = w)
  case first =>
    go_wp2_with fail
    go_loop [15, 16] (fun q r => ∃ Q R : Nat, q = .int .u64 (Q : Int) ∧ r = .int .u64 (R : Int) ∧ Guess v y1 y0 u d1 Q R ∧ R < 4294967296) (fun q _ => (intOf q).toNat)
    case atStart => exact ⟨qa, ra, rfl, rfl, G.out, hra2⟩
    case round =>
      obtain ⟨Q, R, rfl, rfl, g, hR⟩ := hrel
      clear hq1 hq2 hq3 hra2
      have gle := g.le
      have gy0 := g.h3
      have gy1 := g.h2
      have gd := g.hd
      have g4 := g.h1
      have HG := Lib.hid g
      by_cases hc : 4294967296 ≤ Q ∨ 4294967296 * R + d1 < Q * y0
      · have hm := g.more hc
        have hQp : 0 < Q := Nat.lt_of_le_of_lt (Nat.zero_le _) hm
        have gn := g.next hm
        have HN := Lib.hid gn
        clear gn g hm
        have c1 : IntKind.u64.wrap ((Q : Int) - 1) = ((Q - 1 : Nat) : Int) := by rw [u64_wrap]; omega
        have c2 : IntKind.u64.wrap ((R : Int) + (y1 : Int)) = ((R + y1 : Nat) : Int) := by rw [u64_wrap]; omega
        obtain ⟨Q', hQ'⟩ : ∃ q, q = Q - 1 := ⟨_, rfl⟩
        obtain ⟨R', hR'⟩ : ∃ q, q = R + y1 := ⟨_, rfl⟩
        rw [← hQ'] at c1 HN
        rw [← hR'] at c2 HN
        have hlt : Q' < Q := by omega
        have hle : Q' ≤ 4294967296 := by omega
        clear hQ' hR'
        by_cases hbig : 4294967296 ≤ Q
        · have b1 : (4294967296 : Int) ≤ (Q : Int) := by omega
          clear hc
          by_cases hout : 4294967296 ≤ R'
          · have b2 : (4294967296 : Int) ≤ (R' : Int) := by omega
            have HO := Lib.hid (HN.out.out hle hout)
            go_wp2_with fail
            go_meet
            exact ⟨Q', R', rfl, rfl, HO.out, rfl⟩
          · have b2 : ¬ (4294967296 : Int) ≤ (R' : Int) := by omega
            go_wp2_with fail
            go_round
            case rel => exact ⟨Q', R', rfl, rfl, HN.out, by omega⟩
            case measure => simp [intOf]; omega
        · have b1 : ¬ (4294967296 : Int) ≤ (Q : Int) := by omega
          obtain ⟨P, R1, R2, c3, c4, c5, hP, hR2⟩ := guess_test Q y0 R d1 (by omega) gy0 hR gd
          have b3 : R2 < P := by rcases hc with hc | hc; exact absurd hc hbig; rw [hP, hR2]; exact hc
          clear hc hP hR2
          by_cases hout : 4294967296 ≤ R'
          · have b2 : (4294967296 : Int) ≤ (R' : Int) := by omega
            have HO := Lib.hid (HN.out.out hle hout)
            go_wp2_with fail
            go_meet
            exact ⟨Q', R', rfl, rfl, HO.out, rfl⟩
          · have b2 : ¬ (4294967296 : Int) ≤ (R' : Int) := by omega
            go_wp2_with fail
            go_round
            case rel => exact ⟨Q', R', rfl, rfl, HN.out, by omega⟩
            case measure => simp [intOf]; omega
      · have hbig : ¬ 4294967296 ≤ Q := fun h => hc (.inl h)
        have b1 : ¬ (4294967296 : Int) ≤ (Q : Int) := by omega
        obtain ⟨P, R1, R2, c3, c4, c5, hP, hR2⟩ := guess_test Q y0 R d1 (by omega) gy0 hR gd
        have b3 : ¬ R2 < P := by rw [hP, hR2]; exact fun h => hc (.inr h)
        have HO := Lib.hid (g.done (by rw [← hP, ← hR2]; omega))
        clear hc hP hR2 g
        go_wp2_with fail
        go_meet
        exact ⟨Q, R, rfl, rfl, HO.out, rfl⟩
  case rest =>
    obtain ⟨Q, R, rfl, rfl, hQ, rfl⟩ := hcut
    have HQ := Lib.hid hQ
    obtain ⟨u2, hu2⟩ : ∃ r, r = (u * 4294967296 + d1) % v := ⟨_, rfl⟩
    obtain ⟨x1, x2, x3, B⟩ := div_b v u d1 Q u2 HF.out.hv G.out.pos hQ hu2
    have e1 := B.e1
    have e2 := B.e2
    have e3 := B.e3
    have e4 := B.e4
    have hlt2 : u2 < v := by rw [hu2]; exact Nat.mod_lt _ G.out.pos
    have hv2 := HF.out.hv
    have g := Guess.first G.out.hv G.out.h1 G.out.h2 G.out.h3 hlt2 HF.out.hd0
    have HU2 := Lib.hid hu2
    clear hQ hu2 B hq1 hq2 hq3 hra2
    have hq1 : IntKind.u64.wrap ((u2 : Int) / (y1 : Int)) = ((u2 / y1 : Nat) : Int) := by
      rw [← Int.natCast_ediv]
      exact u64_nat _ _ (Nat.mod_eq_of_lt (Nat.lt_of_le_of_lt (Nat.div_le_self _ _) (by omega)))
    have hq2 : IntKind.u64.wrap (((u2 / y1 : Nat) : Int) * (y1 : Int)) = ((u2 / y1 * y1 : Nat) : Int) := u64_mul_nat _ _ _ (Nat.mod_eq_of_lt (Nat.lt_of_le_of_lt (Nat.div_mul_le_self _ _) (by omega)))
    have hm2 : u2 % y1 < 4294967296 := by have := Nat.mod_lt u2 (show 0 < y1 by omega); have := g.h2; omega
    have hq3 : IntKind.u64.wrap ((u2 : Int) - ((u2 / y1 * y1 : Nat) : Int)) = ((u2 % y1 : Nat) : Int) := by
      have e := Nat.div_add_mod u2 y1
      rw [Nat.mul_comm] at e
      clear e1 e2 e3 e4 g hq1 hq2
      generalize u2 / y1 * y1 = z at *
      generalize u2 % y1 = r at *
      rw [u64_wrap]; omega
    obtain ⟨qb, hqb⟩ : ∃ q, q = u2 / y1 := ⟨_, rfl⟩
    obtain ⟨rb, hrb⟩ : ∃ r, r = u2 % y1 := ⟨_, rfl⟩
    obtain ⟨zb, hzb⟩ : ∃ r, r = u2 / y1 * y1 := ⟨_, rfl⟩
    rw [← hzb] at hq2 hq3
    rw [← hqb] at hq1 hq2 g
    rw [← hrb] at hq3 g hm2
    have G2 := Lib.hid g
    clear hzb hqb hrb g
    go_upto_block 2 with fail
    go_cut [16, 18] (fun r q wx => ∃ Q2 R2 : Nat, q = .int .u64 (Q2 : Int) ∧ r = .int .u64 (R2 : Int) ∧ Q2 = (u2 * 4294967296 + d0) / v ∧ wx = wc)
    case first =>
      go_wp2_with fail
      go_loop [16, 18] (fun r q => ∃ Q R : Nat, q = .int .u64 (Q : Int) ∧ r = .int .u64 (R : Int) ∧ Guess v y1 y0 u2 d0 Q R ∧ R < 4294967296) (fun _ q => (intOf q).toNat)
      case atStart => exact ⟨qb, rb, rfl, rfl, G2.out, hm2⟩
      case round =>
        obtain ⟨Q, R, rfl, rfl, g, hR⟩ := hrel
        clear hq1 hq2 hq3 hm2
        have gle := g.le
        have gy0 := g.h3
        have gy1 := g.h2
        have gd := g.hd
        have g4 := g.h1
        have HG := Lib.hid g
        by_cases hc : 4294967296 ≤ Q ∨ 4294967296 * R + d0 < Q * y0
        · have hm := g.more hc
          have hQp : 0 < Q := Nat.lt_of_le_of_lt (Nat.zero_le _) hm
          have gn := g.next hm
          have HN := Lib.hid gn
          clear gn g hm
          have c1 : IntKind.u64.wrap ((Q : Int) - 1) = ((Q - 1 : Nat) : Int) := by rw [u64_wrap]; omega
          have c2 : IntKind.u64.wrap ((R : Int) + (y1 : Int)) = ((R + y1 : Nat) : Int) := by rw [u64_wrap]; omega
          obtain ⟨Q', hQ'⟩ : ∃ q, q = Q - 1 := ⟨_, rfl⟩
          obtain ⟨R', hR'⟩ : ∃ q, q = R + y1 := ⟨_, rfl⟩
          rw [← hQ'] at c1 HN
          rw [← hR'] at c2 HN
          have hlt : Q' < Q := by omega
          have hle : Q' ≤ 4294967296 := by omega
          clear hQ' hR'
          by_cases hbig : 4294967296 ≤ Q
          · have b1 : (4294967296 : Int) ≤ (Q : Int) := by omega
            clear hc
            by_cases hout : 4294967296 ≤ R'
            · have b2 : (4294967296 : Int) ≤ (R' : Int) := by omega
              have HO := Lib.hid (HN.out.out hle hout)
              go_wp2_with fail
              go_meet
              exact ⟨Q', R', rfl, rfl, HO.out, rfl⟩
            · have b2 : ¬ (4294967296 : Int) ≤ (R' : Int) := by omega
              go_wp2_with fail
              go_round
              case rel => exact ⟨Q', R', rfl, rfl, HN.out, by omega⟩
              case measure => simp [intOf]; omega
          · have b1 : ¬ (4294967296 : Int) ≤ (Q : Int) := by omega
            obtain ⟨P, R1, R2, c3, c4, c5, hP, hR2⟩ := guess_test Q y0 R d0 (by omega) gy0 hR gd
            have b3 : R2 < P := by rcases hc with hc | hc; exact absurd hc hbig; rw [hP, hR2]; exact hc
            clear hc hP hR2
            by_cases hout : 4294967296 ≤ R'
            · have b2 : (4294967296 : Int) ≤ (R' : Int) := by omega
              have HO := Lib.hid (HN.out.out hle hout)
              go_wp2_with fail
              go_meet
              exact ⟨Q', R', rfl, rfl, HO.out, rfl⟩
            · have b2 : ¬ (4294967296 : Int) ≤ (R' : Int) := by omega
              go_wp2_with fail
              go_round
              case rel => exact ⟨Q', R', rfl, rfl, HN.out, by omega⟩
              case measure => simp [intOf]; omega
        · have hbig : ¬ 4294967296 ≤ Q := fun h => hc (.inl h)
          have b1 : ¬ (4294967296 : Int) ≤ (Q : Int) := by omega
          obtain ⟨P, R1, R2, c3, c4, c5, hP, hR2⟩ := guess_test Q y0 R d0 (by omega) gy0 hR gd
          have b3 : ¬ R2 < P := by rw [hP, hR2]; exact fun h => hc (.inr h)
          have HO := Lib.hid (g.done (by rw [← hP, ← hR2]; omega))
          clear hc hP hR2 g
          go_wp2_with fail
          go_meet
          exact ⟨Q, R, rfl, rfl, HO.out, rfl⟩
    case rest =>
      obtain ⟨Q2, R2, rfl, rfl, hQ2, rfl⟩ := hcut
      clear hq1 hq2 hq3 hm2
      obtain ⟨rr, hrr⟩ : ∃ r, r = (u2 * 4294967296 + d0) % v := ⟨_, rfl⟩
      obtain ⟨y1', y2', y3', B⟩ := div_b v u2 d0 Q2 rr HF.out.hv G.out.pos hQ2 hrr
      have i1 := B.e1
      have i2 := B.e2
      have i3 := B.e3
      have i4 := B.e4
      have hQs : Q < 4294967296 := by rw [HQ.out]; exact G.out.small
      have hQ2s : Q2 < 4294967296 := by rw [hQ2]; exact G2.out.small
      have i5 : IntKind.u64.wrap ((Q : Int) * 4294967296) = ((Q * 4294967296 : Nat) : Int) := u64_mul_nat Q 4294967296 _ (Nat.mod_eq_of_lt (by omega))
      have i6 : IntKind.u64.wrap (((Q * 4294967296 : Nat) : Int) + (Q2 : Int)) = ((Q * 4294967296 + Q2 : Nat) : Int) := by rw [u64_wrap]; omega
      have i7 : (rr : Int) / 2 ^ s = ((rr / 2 ^ s : Nat) : Int) := by rw [Int.natCast_ediv, Int.natCast_pow]; rfl
      have hfin : RowKit.Hid ((H * 18446744073709551616 + L) / Y = Q * 4294967296 + Q2 ∧ (H * 18446744073709551616 + L) % Y = rr / 2 ^ s) := by
        refine Lib.hid ⟨?_, ?_⟩
        · rw [HF.out.qt, ← HQ.out, ← HU2.out, ← hQ2]
        · rw [HF.out.rt, ← HU2.out, ← hrr]
      obtain ⟨f1, hf1⟩ : ∃ r, r = Q * 4294967296 := ⟨_, rfl⟩
      obtain ⟨f2, hf2⟩ : ∃ r, r = Q * 4294967296 + Q2 := ⟨_, rfl⟩
      obtain ⟨f3, hf3⟩ : ∃ r, r = rr / 2 ^ s := ⟨_, rfl⟩
      rw [← hf2, ← hf3] at hfin
      rw [← hf1] at i5 i6
      rw [hf1, ← hf2] at i6
      rw [← hf1] at i6
      rw [← hf3] at i7
      clear hQ2 hrr B hf1 hf2 hf3 hQs hQ2s
      go_wp2_with fail
      go_ret2
      exact ⟨by rw [hfin.out.1, hfin.out.2]; rfl, rfl⟩
theorem div64_calls (w0 : World) (H L Y : Nat) (hh : H < Y) (hl : L < 18446744073709551616) (hy : Y < 18446744073709551616) (w : World) (h : Ext w0 w) :
    Calls Tryz.prog 236 #[.int .u64 (H : Int), .int .u64 (L : Int), .int .u64 (Y : Int)] w fun e w' => e = .returned (.tuple #[.int .u64 (((H * 18446744073709551616 + L) / Y : Nat) : Int), .int .u64 (((H * 18446744073709551616 + L) % Y : Nat) : Int)]) ∧ Ext w0 w' := by
  rcases Nat.eq_zero_or_pos H with hz | hp
  · subst hz
    have e := div64_zero w0 L Y hl hy (by omega) w h
    rw [Nat.zero_mul, Nat.zero_add]
    exact e
  · exact (div64_big H L Y hh hl hy hp w).mono fun e w' ⟨he, hw⟩ => ⟨he, hw ▸ h⟩
end Go.Proofs.YtegcecpmdgljpaaGreatDoor

namespace Go.Proofs.YtegcecpmdgljpaaGreatDoor
open Go.RowKit
set_option linter.unusedVariables false

theorem or_i64_nat (x y : Nat) (hx : x < 18446744073709551616) (hy : y < 18446744073709551616) : bits .or .i64 (wrap64 (x : Int)) (wrap64 (y : Int)) = wrap64 ((x ||| y : Nat) : Int) := by
  have e : bits .or .i64 (wrap64 (x : Int)) (wrap64 (y : Int)) = (BitVec.ofInt 64 (wrap64 (x : Int)) ||| BitVec.ofInt 64 (wrap64 (y : Int))).toInt := by
    rw [← wrap_toInt]; exact IntWalk.i64_left _
  rw [e, ofInt_wrap, ofInt_wrap, ← wrap_toInt, BitVec.toNat_or, BitVec.ofInt_natCast, BitVec.ofInt_natCast, BitVec.toNat_ofNat, BitVec.toNat_ofNat, Nat.mod_eq_of_lt (by omega), Nat.mod_eq_of_lt (by omega)]
theorem half_or (a b : Int) (ha : I64 a) (hb : I64 b) : bits .or .i64 (wrap64 (b * 9223372036854775808)) (wrap64 (U a / 2)) = lo (V a b / 2) := by
  obtain ⟨h1, h2⟩ := U_bd a
  obtain ⟨y, hy⟩ := Int.eq_ofNat_of_zero_le (show 0 ≤ U a / 2 by omega)
  have hy2 : y < 2 ^ 63 := by omega
  rw [(half_is a b ha hb).1, hy]
  rcases (show b % 2 = 0 ∨ b % 2 = 1 by omega) with hz | hz
  · have e : wrap64 (b * 9223372036854775808) = wrap64 ((0 : Nat) : Int) := by unfold wrap64; omega
    rw [e, or_i64_nat 0 y (by omega) (by omega), Nat.zero_or, hz]
    simp
  · have e : wrap64 (b * 9223372036854775808) = wrap64 ((9223372036854775808 : Nat) : Int) := by unfold wrap64; omega
    have e2 : 9223372036854775808 ||| y = 9223372036854775808 + y := by
      have := Nat.two_pow_add_eq_or_of_lt hy2 1
      simpa using this.symm
    rw [e, or_i64_nat 9223372036854775808 y (by omega) (by omega), e2, hz]
    congr 1
    omega
theorem half_calls (w0 : World) (a b : Int) (ha : I64 a) (hb : I64 b) (w : World) (h : Ext w0 w) : Calls Tryz.prog 112 #[.agg #[.int .i64 a, .int .i64 b]] w fun e w' => e = .returned (.agg #[.int .i64 (lo (V a b / 2)), .int .i64 (hi (V a b / 2))]) ∧ Ext w0 w' := by
  have ea : IntKind.u64.wrap a = U a := u64_wrap a
  have eo := half_or a b ha hb
  rw [(half_is a b ha hb).2]
  obtain ⟨l, hl⟩ : ∃ l, l = lo (V a b / 2) := ⟨_, rfl⟩
  rw [← hl] at eo ⊢
  clear hl ha hb
  go_enter Tryz.func112, Tryz.ntmps112
  go_wp2
  exact bodyPost_ret (v := .agg #[.int .i64 l, .int .i64 (b / 2)]) (by simp [results, Tryz.results112, go_sem]) rfl ⟨rfl, (h.cells _ _).cells _ _⟩

theorem umul_lo (X Y : Nat) : wrap64 ((X * Y % 18446744073709551616 : Nat) : Int) = lo ((X : Int) * (Y : Int)) ∧ wrap64 ((X * Y / 18446744073709551616 : Nat) : Int) = hi ((X : Int) * (Y : Int)) := by
  rw [← Int.natCast_mul]
  unfold lo hi wrap64
  omega
theorem umul_calls (w0 : World) (a b : Int) (ha : I64 a) (hb : I64 b) (w : World) (h : Ext w0 w) : Calls Tryz.prog 115 #[.int .i64 a, .int .i64 b] w fun e w' => e = .returned (.agg #[.int .i64 (lo (U a * U b)), .int .i64 (hi (U a * U b))]) ∧ Ext w0 w' := by
  obtain ⟨a1, a2⟩ := U_bd a
  obtain ⟨b1, b2⟩ := U_bd b
  obtain ⟨X, hX⟩ := Int.eq_ofNat_of_zero_le a1
  obtain ⟨Y, hY⟩ := Int.eq_ofNat_of_zero_le b1
  have ea : IntKind.u64.wrap a = (X : Int) := by rw [← hX]; exact u64_wrap a
  have eb : IntKind.u64.wrap b = (Y : Int) := by rw [← hY]; exact u64_wrap b
  have hm := Lib.hid (fun w => Tryz.bits_Mul64 X Y (by omega) (by omega) w)
  rw [hX, hY, ← (umul_lo X Y).1, ← (umul_lo X Y).2]
  clear a1 a2 b1 b2 hX hY ha hb
  obtain ⟨p, hp⟩ : ∃ p, p = X * Y / 18446744073709551616 := ⟨_, rfl⟩
  obtain ⟨q, hq⟩ : ∃ p, p = X * Y % 18446744073709551616 := ⟨_, rfl⟩
  rw [← hp, ← hq] at hm ⊢
  clear hp hq
  go_enter Tryz.func115, Tryz.ntmps115
  go_wp2_with fail
  refine (hm.out _).mono ?_
  rintro e w' ⟨rfl, rfl⟩
  go_wp2_with fail
  refine (frombits_calls _ _ _ _ (Ext.refl _)).mono ?_
  rintro e w' ⟨rfl, hx⟩
  have hX := (h.cells _ _).trans hx
  obtain ⟨c0, c1, f0, f1, hs⟩ := ext_last2 hx
  have hs0 := h.1.size
  clear hx hm
  go_wp2
  exact bodyPost_ret (v := .agg #[.int .i64 (wrap64 (q : Int)), .int .i64 (wrap64 (p : Int))]) (by simp [results, Tryz.results115, go_sem, c0, c1]) rfl ⟨rfl, (hX.setCell hs0 _).setCell hs0 _⟩

end Go.Proofs.YtegcecpmdgljpaaGreatDoor

namespace Go.Proofs.YtegcecpmdgljpaaGreatDoor
open Go.RowKit
set_option linter.unusedVariables false

theorem ret_pair {a b c d : Int} (h : a = c) (k : b = d) : Ending.returned (.agg #[.int .i64 a, .int .i64 b]) = .returned (.agg #[.int .i64 c, .int .i64 d]) := by rw [h, k]

theorem rbelow_calls (a b : Int) (w : World) : Calls Tryz.prog 56 #[.int .i64 a, .int .i64 b] w fun e w' => e = .returned (.bool (decide (U a < U b))) ∧ w = w' := by
  have ea : IntKind.u64.wrap a = U a := u64_wrap a
  have eb : IntKind.u64.wrap b = U b := u64_wrap b
  go_enter Tryz.func56, Tryz.ntmps56
  go_wp2
  go_ret
  exact ⟨rfl, rfl⟩

theorem radd_calls (w0 : World) (a b c d : Int) (ha : I64 a) (hb : I64 b) (hc : I64 c) (hd : I64 d) (w : World) (h : Ext w0 w) :
    Calls Tryz.prog 35 #[.agg #[.int .i64 a, .int .i64 b], .agg #[.int .i64 c, .int .i64 d]] w fun e w' => e = .returned (.agg #[.int .i64 (lo (V a b + V c d)), .int .i64 (hi (V a b + V c d))]) ∧ Ext w0 w' := by
  obtain ⟨e1, e2⟩ := add_is a b c d ha hb hc hd
  rw [e1, e2]
  clear e1 e2 ha hb hc hd
  by_cases hlt : U (wrap64 (a + c)) < U a
  · rw [if_pos hlt]
    go_enter Tryz.func35, Tryz.ntmps35
    go_wp2_with (go_at_call 56; refine (rbelow_calls _ _ _).mono ?_; rintro e w' ⟨rfl, rfl⟩)
    exact bodyPost_ret (v := .agg #[.int .i64 (wrap64 (a + c)), .int .i64 (wrap64 (wrap64 (b + d) + 1))]) (by simp [results, Tryz.results35, go_sem]) rfl ⟨rfl, ((h.cells _ _).cells _ _).cells _ _⟩
  · rw [if_neg hlt]
    have hge : U a ≤ U (wrap64 (a + c)) := by omega
    go_enter Tryz.func35, Tryz.ntmps35
    go_wp2_with (go_at_call 56; refine (rbelow_calls _ _ _).mono ?_; rintro e w' ⟨rfl, rfl⟩)
    exact bodyPost_ret (v := .agg #[.int .i64 (wrap64 (a + c)), .int .i64 (wrap64 (b + d))]) (by simp [results, Tryz.results35, go_sem]) rfl ⟨rfl, ((h.cells _ _).cells _ _).cells _ _⟩

theorem V_one : V 1 0 = 1 := by unfold V U; omega
theorem rneg_calls (w0 : World) (a b : Int) (ha : I64 a) (hb : I64 b) (w : World) (h : Ext w0 w) :
    Calls Tryz.prog 22 #[.agg #[.int .i64 a, .int .i64 b]] w fun e w' => e = .returned (.agg #[.int .i64 (lo (-V a b)), .int .i64 (hi (-V a b))]) ∧ Ext w0 w' := by
  have e : V (wrap64 (-1 - a)) (wrap64 (-1 - b)) + V 1 0 = -V a b := by rw [not_is a b ha hb, V_one]; omega
  have hc := Lib.hid (fun w => radd_calls w (wrap64 (-1 - a)) (wrap64 (-1 - b)) 1 0 (i64_wrap _) (i64_wrap _) (by unfold I64; omega) (by unfold I64; omega) w (Ext.refl w))
  rw [e] at hc
  clear e ha hb
  go_enter Tryz.func22, Tryz.ntmps22
  go_wp2_with fail
  refine (hc.out _).mono ?_
  rintro e w' ⟨rfl, hx⟩
  have hX := ((h.cells _ _).cells _ _).trans hx
  obtain ⟨c0, c1, f0, f1, hs⟩ := ext_last2 hx
  simp only [size_alloc] at c0 c1 f0 f1 hs
  have hs0 := h.1.size
  clear hx hc
  go_wp2
  exact bodyPost_ret (v := .agg #[.int .i64 (lo (-V a b)), .int .i64 (hi (-V a b))]) (by simp [results, Tryz.results22, go_sem, c0, c1]) rfl ⟨rfl, (hX.setCell (by simp; omega) _).setCell (by simp; omega) _⟩
theorem rtwice_calls (w0 : World) (a b : Int) (ha : I64 a) (hb : I64 b) (w : World) (h : Ext w0 w) :
    Calls Tryz.prog 78 #[.agg #[.int .i64 a, .int .i64 b]] w fun e w' => e = .returned (.agg #[.int .i64 (lo (2 * V a b)), .int .i64 (hi (2 * V a b))]) ∧ Ext w0 w' := by
  have hc := Lib.hid (fun w => radd_calls w a b a b ha hb ha hb w (Ext.refl w))
  rw [← Int.two_mul] at hc
  clear ha hb
  go_enter Tryz.func78, Tryz.ntmps78
  go_wp2_with fail
  refine (hc.out _).mono ?_
  rintro e w' ⟨rfl, hx⟩
  have hX := ((h.cells _ _).cells _ _).trans hx
  obtain ⟨c0, c1, f0, f1, hs⟩ := ext_last2 hx
  simp only [size_alloc] at c0 c1 f0 f1 hs
  have hs0 := h.1.size
  clear hx hc
  go_wp2
  exact bodyPost_ret (v := .agg #[.int .i64 (lo (2 * V a b)), .int .i64 (hi (2 * V a b))]) (by simp [results, Tryz.results78, go_sem, c0, c1]) rfl ⟨rfl, (hX.setCell (by simp; omega) _).setCell (by simp; omega) _⟩

theorem ruless_calls (w0 : World) (a b c d : Int) (ha : I64 a) (hb : I64 b) (hc : I64 c) (hd : I64 d) (w : World) (h : Ext w0 w) :
    Calls Tryz.prog 79 #[.agg #[.int .i64 a, .int .i64 b], .agg #[.int .i64 c, .int .i64 d]] w fun e w' => e = .returned (.bool (decide (W a b < W c d))) ∧ Ext w0 w' := by
  have e := W_less a b c d
  have e0 := U_inj hb hd
  by_cases hq : b = d
  · subst hq
    have e1 : decide (W a b < W c b) = decide (U a < U c) := by rw [decide_eq_decide, e]; omega
    rw [e1]
    clear e e0 e1 ha hb hc hd
    go_enter Tryz.func79, Tryz.ntmps79
    go_wp2_with (go_at_call 56; refine (rbelow_calls _ _ _).mono ?_; rintro e w' ⟨rfl, rfl⟩)
    go_ret
    exact ⟨rfl, (h.cells _ _).cells _ _⟩
  · have e1 : decide (W a b < W c d) = decide (U b < U d) := by rw [decide_eq_decide, e]; omega
    have hq' : (b != d) = true := by simpa using hq
    rw [e1]
    clear e e0 e1 ha hb hc hd hq
    go_enter Tryz.func79, Tryz.ntmps79
    go_wp2_with (go_at_call 56; refine (rbelow_calls _ _ _).mono ?_; rintro e w' ⟨rfl, rfl⟩)
    go_ret
    exact ⟨rfl, (h.cells _ _).cells _ _⟩

end Go.Proofs.YtegcecpmdgljpaaGreatDoor

namespace Go.Proofs.YtegcecpmdgljpaaGreatDoor
open Go.RowKit
set_option linter.unusedVariables false

theorem fits_is (a b : Int) (ha : I64 a) (hb : I64 b) : (a == lo a && b == hi a) = decide (V a b = a) := by
  rw [(of_is a ha).1, (of_is a ha).2]
  have e := V_of a ha
  unfold V U; unfold I64 at *
  rw [Bool.eq_iff_iff]
  by_cases h : a < 0 <;> simp [h] <;> omega
theorem lo_twice (n : Int) : lo (2 * V (lo n) (hi n)) = lo (2 * n) ∧ hi (2 * V (lo n) (hi n)) = hi (2 * n) := by
  obtain ⟨k, hk⟩ := V_mk n
  exact same (2 * k) (by rw [hk]; omega)
theorem V_low (b : Int) : V b 0 = U b := by unfold V; omega
theorem umul_step (X m : Nat) (Y : Int) : 2 * ((X / 2 ^ (m + 1) : Nat) * Y) = ((X / 2 ^ m / 2 : Nat) : Int) * 2 * Y := by
  rw [Nat.pow_succ, ← Nat.div_div_eq_div_mul, ← Int.mul_assoc, Int.mul_comm 2]
theorem shr_nat_is (X m : Nat) : (X : Int) / 2 ^ m = ((X / 2 ^ m : Nat) : Int) := by
  rw [Int.natCast_ediv, Int.natCast_pow]; rfl
theorem natOf_U (a : Int) : (natOf a : Int) = U a := by rw [← natOf_is, u64_wrap]; rfl
theorem rtwice_mk (n : Int) (W : World) : Calls Tryz.prog 78 #[.agg #[.int .i64 (lo n), .int .i64 (hi n)]] W fun e w' => e = .returned (.agg #[.int .i64 (lo (2 * n)), .int .i64 (hi (2 * n))]) ∧ Ext W w' := by
  have h := rtwice_calls W (lo n) (hi n) (lo_i64 n) (hi_i64 n) W (Ext.refl W)
  rw [(lo_twice n).1, (lo_twice n).2] at h
  exact h
theorem radd_mk (n : Int) (c d : Int) (hc : I64 c) (hd : I64 d) (W : World) : Calls Tryz.prog 35 #[.agg #[.int .i64 (lo n), .int .i64 (hi n)], .agg #[.int .i64 c, .int .i64 d]] W fun e w' => e = .returned (.agg #[.int .i64 (lo (n + V c d)), .int .i64 (hi (n + V c d))]) ∧ Ext W w' := by
  have h := radd_calls W (lo n) (hi n) c d (lo_i64 n) (hi_i64 n) hc hd W (Ext.refl W)
  rw [(same_add n _).1, (same_add n _).2] at h
  exact h
theorem radd_low (b : Int) (hb : I64 b) (n : Int) (W : World) : Calls Tryz.prog 35 #[.agg #[.int .i64 (lo n), .int .i64 (hi n)], .agg #[.int .i64 b, .int .i64 0]] W fun e w' => e = .returned (.agg #[.int .i64 (lo (n + U b)), .int .i64 (hi (n + U b))]) ∧ Ext W w' := by
  have h := radd_mk n b 0 hb (by unfold I64; omega) W
  rw [V_low] at h
  exact h
set_option maxHeartbeats 2000000 in
set_option maxRecDepth 100000 in
theorem rumul_calls (w0 : World) (a b : Int) (ha : I64 a) (hb : I64 b) (w : World) (h : Ext w0 w) : Calls Tryz.prog 83 #[.int .i64 a, .int .i64 b] w fun e w' => e = .returned (.agg #[.int .i64 (lo (U a * U b)), .int .i64 (hi (U a * U b))]) ∧ Ext w0 w' := by
  have HXl := Lib.hid (natOf_lt a)
  rw [← natOf_U a]
  have ea := natOf_is a
  generalize natOf a = X at *
  have htw := Lib.hid rtwice_mk
  have hadd := Lib.hid (radd_low b hb)
  clear ha hb
  go_enter Tryz.func83, Tryz.ntmps83
  go_wp2
  clear ea
  have hs0 := h.1.size
  have o0 : Own ((w.alloc (.cells #[Value.int .i64 0, Value.int .i64 0] 44)).alloc (.cells #[Value.int .i64 0, Value.int .i64 0] 44)) w.heap.size (.int .i64 0) (.int .i64 0) := Own.last.alloc _ _
  have o1 : Own ((w.alloc (.cells #[Value.int .i64 0, Value.int .i64 0] 44)).alloc (.cells #[Value.int .i64 0, Value.int .i64 0] 44)) (w.heap.size + 1) (.int .i64 0) (.int .i64 0) := by
    have := Own.last (X := w.alloc (.cells #[Value.int .i64 0, Value.int .i64 0] 44)) (x := Value.int .i64 0) (y := Value.int .i64 0) (t := 44)
    rwa [size_alloc] at this
  have hE : Ext w0 ((w.alloc (.cells #[Value.int .i64 0, Value.int .i64 0] 44)).alloc (.cells #[Value.int .i64 0, Value.int .i64 0] 44)) := (h.cells _ _).cells _ _
  go_loopw [7] (fun i wr => ∃ k : Nat, k ≤ 64 ∧ i = .int .i64 (↑k - 1) ∧ Own wr (w.heap.size + 1) (.int .i64 (lo ((X / 2 ^ k : Nat) * U b))) (.int .i64 (hi ((X / 2 ^ k : Nat) * U b))) ∧ Own wr w.heap.size (.int .i64 0) (.int .i64 0) ∧ Ext w0 wr) (fun i _ => (intOf i + 1).toNat)
  case atStart =>
    have e : X / 2 ^ 64 = 0 := Nat.div_eq_of_lt HXl.out
    refine ⟨64, by omega, rfl, ?_, o0, hE⟩
    rw [e]
    simpa [lo, hi, wrap64] using o1
  case round =>
    obtain ⟨k, hk, rfl, p1, p0, hx⟩ := hrel
    clear o0 o1 hE
    cases k with
    | zero =>
      rw [show ((0 : Nat) : Int) - 1 = -1 from rfl]
      have c0 := p1.c0
      have c1 := p1.c1
      have d0 := p0.c0
      have d1 := p0.c1
      have f0 := p0.f0
      have f1 := p0.f1
      have lt := p0.lt
      go_wp2
      refine bodyPost_ret (v := .agg #[.int .i64 (lo (X * U b)), .int .i64 (hi (X * U b))]) ?_ rfl ⟨rfl, hx.set2 hs0 _ _⟩
      simp [results, Tryz.results83, go_sem, d0, d1]
    | succ m =>
      rw [show ((m + 1 : Nat) : Int) - 1 = (m : Int) from by omega]
      have es := shr_nat_is X m
      have hq : X / 2 ^ (m + 1) = X / 2 ^ m / 2 := by rw [Nat.pow_succ, Nat.div_div_eq_div_mul]
      rw [hq] at p1
      clear hq
      obtain ⟨p, hp⟩ : ∃ p, p = X / 2 ^ m := ⟨_, rfl⟩
      rw [← hp] at es p1
      have Hp := Lib.hid hp
      clear hp
      obtain ⟨q, hq⟩ : ∃ q, q = p / 2 := ⟨_, rfl⟩
      rw [← hq] at p1
      have Hq := Lib.hid hq
      clear hq
      have c0 := p1.c0
      have c1 := p1.c1
      have m0 : (0 : Int) ≤ m := by omega
      have m1 : m ≤ 64 := by omega
      have m2 : (m : Int) ≤ 64 := by omega
      go_wp2_with fail
      refine (htw.out _ _).mono ?_
      rintro e w' ⟨rfl, hx1⟩
      have p1' := p1.ext hx1
      have p0' := p0.ext hx1
      have hx' := hx.trans hx1
      clear c0 c1 p1 p0 hx hx1
      have c0 := p1'.c0
      have c1 := p1'.c1
      have f0 := p1'.f0
      have f1 := p1'.f1
      have n0 := p1'.lt
      rcases (show p % 2 = 0 ∨ p % 2 = 1 by omega) with hz | hz
      · have ez : ((p : Int) % 2 == 1) = false := by simp; omega
        have E : RowKit.Hid (2 * ((q : Int) * U b) = (p : Int) * U b) := Lib.hid (by rw [← Int.mul_assoc]; congr 1; have := Hq.out; omega)
        clear hz
        go_wp2
        go_roundw
        case rel => exact ⟨m, by omega, rfl, by rw [← Hp.out, ← E.out]; exact p1'.set _ _, p0'.other (by omega) _ _, hx'.set2 (by omega) _ _⟩
        case measure => simp [intOf]
      · have ez : ((p : Int) % 2 == 1) = true := by simp; omega
        have E : RowKit.Hid (2 * ((q : Int) * U b) + U b = (p : Int) * U b) := Lib.hid (by rw [← Int.mul_assoc, show (p : Int) = 2 * q + 1 from by have := Hq.out; omega, Int.add_mul, Int.one_mul])
        clear hz
        go_wp2_with fail
        refine (hadd.out _ _).mono ?_
        rintro e w'' ⟨rfl, hx2⟩
        have p2 := (p1'.set _ _).ext hx2
        have p3 := (p0'.other (b' := w.heap.size + 1) (by omega) _ _).ext hx2
        have hx3 := (hx'.set2 (n := w.heap.size + 1) (by omega) _ _).trans hx2
        clear c0 c1 f0 f1 n0 p1' p0' hx' hx2
        have c0 := p2.c0
        have c1 := p2.c1
        have f0 := p2.f0
        have f1 := p2.f1
        have n0 := p2.lt
        go_wp2
        go_roundw
        case rel => exact ⟨m, by omega, rfl, by rw [← Hp.out, ← E.out]; exact p2.set _ _, p3.other (by omega) _ _, hx3.set2 (by omega) _ _⟩
        case measure => simp [intOf]

theorem hi_sub (n t : Int) : lo (n - 18446744073709551616 * t) = lo n ∧ hi (n - 18446744073709551616 * t) = wrap64 (hi n - t) := by
  unfold lo hi wrap64; omega
theorem hi_mod (n t : Int) : lo (n + 18446744073709551616 * (18446744073709551616 * t)) = lo n ∧ hi (n + 18446744073709551616 * (18446744073709551616 * t)) = hi n := by
  unfold lo hi wrap64; omega
theorem U_is (a : Int) (ha : I64 a) : U a = a + 18446744073709551616 * (if a < 0 then 1 else 0) := by
  unfold U; unfold I64 at ha; split <;> omega
theorem mul_parts (a b s t : Int) : a * b = (a + 18446744073709551616 * s) * (b + 18446744073709551616 * t) - 18446744073709551616 * (s * b + t * a) + 18446744073709551616 * (18446744073709551616 * (-(s * t))) := by
  rw [Int.add_mul, Int.mul_add, Int.mul_add]
  have e1 : a * (18446744073709551616 * t) = 18446744073709551616 * (t * a) := by rw [Int.mul_left_comm, Int.mul_comm a t]
  have e2 : 18446744073709551616 * s * b = 18446744073709551616 * (s * b) := by rw [Int.mul_assoc]
  have e3 : 18446744073709551616 * s * (18446744073709551616 * t) = 18446744073709551616 * (18446744073709551616 * (s * t)) := by rw [Int.mul_assoc, Int.mul_left_comm s]
  rw [e1, e2, e3]
  omega
theorem mul_is (a b : Int) (ha : I64 a) (hb : I64 b) : lo (a * b) = lo (U a * U b) ∧ hi (a * b) = if b < 0 then wrap64 ((if a < 0 then wrap64 (hi (U a * U b) - b) else hi (U a * U b)) - a) else (if a < 0 then wrap64 (hi (U a * U b) - b) else hi (U a * U b)) := by
  have e := mul_parts a b (if a < 0 then 1 else 0) (if b < 0 then 1 else 0)
  rw [← U_is a ha, ← U_is b hb] at e
  rw [e, (hi_mod _ _).1, (hi_mod _ _).2, (hi_sub _ _).1, (hi_sub _ _).2]
  refine ⟨rfl, ?_⟩
  have hI := hi_i64 (U a * U b)
  by_cases na : a < 0 <;> by_cases nb : b < 0 <;> simp only [na, nb, if_true, if_false, Int.one_mul, Int.zero_mul, Int.add_zero, Int.zero_add, Int.sub_zero]
  · rw [wrap_sub_l, Int.sub_sub]
  · exact wrap_id hI
end Go.Proofs.YtegcecpmdgljpaaGreatDoor

namespace Go.Proofs.YtegcecpmdgljpaaGreatDoor
open Go.RowKit
set_option linter.unusedVariables false

def big : Nat := 340282366920938463463374607431768211456
def high (N : Nat) : Nat := N / big
theorem same_add2 (n m : Int) : lo (V (lo n) (hi n) + V (lo m) (hi m)) = lo (n + m) ∧ hi (V (lo n) (hi n) + V (lo m) (hi m)) = hi (n + m) := by
  obtain ⟨k, hk⟩ := V_mk n
  obtain ⟨j, hj⟩ := V_mk m
  exact same (k + j) (by rw [hk, hj]; omega)
theorem radd_two (n m : Int) (W : World) : Calls Tryz.prog 35 #[.agg #[.int .i64 (lo n), .int .i64 (hi n)], .agg #[.int .i64 (lo m), .int .i64 (hi m)]] W fun e w' => e = .returned (.agg #[.int .i64 (lo (n + m)), .int .i64 (hi (n + m))]) ∧ Ext W w' := by
  have h := radd_calls W (lo n) (hi n) (lo m) (hi m) (lo_i64 n) (hi_i64 n) (lo_i64 m) (hi_i64 m) W (Ext.refl W)
  rw [(same_add2 n m).1, (same_add2 n m).2] at h
  exact h
theorem radd_one (n : Int) (W : World) : Calls Tryz.prog 35 #[.agg #[.int .i64 (lo n), .int .i64 (hi n)], .agg #[.int .i64 1, .int .i64 0]] W fun e w' => e = .returned (.agg #[.int .i64 (lo (n + 1)), .int .i64 (hi (n + 1))]) ∧ Ext W w' := by
  have h := radd_mk n 1 0 (by unfold I64; omega) (by unfold I64; omega) W
  rw [V_one] at h
  exact h
theorem rneg_low (b : Int) (hb : I64 b) (W : World) : Calls Tryz.prog 22 #[.agg #[.int .i64 b, .int .i64 0]] W fun e w' => e = .returned (.agg #[.int .i64 (lo (-U b)), .int .i64 (hi (-U b))]) ∧ Ext W w' := by
  have h := rneg_calls W b 0 hb (by unfold I64; omega) W (Ext.refl W)
  rw [V_low] at h
  exact h
theorem W_mk (n : Int) (h0 : 0 ≤ n) (h1 : n ≤ 340282366920938463463374607431768211455) : W (lo n) (hi n) = n := by
  unfold W U lo hi wrap64; omega
theorem W_low (b : Int) : W b 0 = U b := by unfold W U; omega
theorem ruless_low (n : Int) (h0 : 0 ≤ n) (h1 : n ≤ 340282366920938463463374607431768211455) (b : Int) (hb : I64 b) (X : World) : Calls Tryz.prog 79 #[.agg #[.int .i64 (lo n), .int .i64 (hi n)], .agg #[.int .i64 b, .int .i64 0]] X fun e w' => e = .returned (.bool (decide (n < U b))) ∧ Ext X w' := by
  have h := ruless_calls X (lo n) (hi n) b 0 (lo_i64 n) (hi_i64 n) hb (by unfold I64; omega) X (Ext.refl X)
  rw [W_mk n h0 h1, W_low] at h
  exact h

theorem high_step (N : Nat) : high (2 * N) = 2 * high N + (if hi (N : Int) < 0 then 1 else 0) := by
  unfold high big hi wrap64
  split <;> omega
theorem div_step (T B c : Nat) (hB : 0 < B) : (2 * T + c) / B = 2 * (T / B) + (2 * (T % B) + c) / B ∧ (2 * T + c) % B = (2 * (T % B) + c) % B := by
  have e : 2 * T + c = (2 * (T % B) + c) + B * (2 * (T / B)) := by
    have := Nat.div_add_mod T B
    rw [Nat.mul_left_comm]
    omega
  rw [e, Nat.add_mul_div_left _ _ hB, Nat.add_mul_mod_self_left]
  exact ⟨by omega, rfl⟩
theorem rest_step (L B c : Nat) (hL : L < B) (hc : c ≤ 1) : (2 * L + c) / B = (if B ≤ 2 * L + c then 1 else 0) ∧ (2 * L + c) % B = (if B ≤ 2 * L + c then 2 * L + c - B else 2 * L + c) := by
  by_cases h : B ≤ 2 * L + c
  · rw [if_pos h, if_pos h, Nat.mod_eq_sub_mod h, Nat.mod_eq_of_lt (by omega)]
    refine ⟨?_, rfl⟩
    rw [Nat.div_eq_sub_div (by omega) h, Nat.div_eq_of_lt (by omega)]
  · rw [if_neg h, if_neg h, Nat.mod_eq_of_lt (by omega), Nat.div_eq_of_lt (by omega)]
    exact ⟨rfl, rfl⟩

/-- The four blocks of the long division: what is divided, the result's, what is left, the quotient. -/
structure Four (w0 w : World) (b : Nat) (p0 p1 l0 l1 q0 q1 : Value) : Prop where
  p : Own w b p0 p1
  r : Own w (b + 1) (.int .i64 0) (.int .i64 0)
  l : Own w (b + 1 + 1) l0 l1
  q : Own w (b + 1 + 1 + 1) q0 q1
  x : Ext w0 w
  le : w0.heap.size ≤ b
theorem Four.ext {w0 w w' : World} {b : Nat} {p0 p1 l0 l1 q0 q1 : Value} (h : Four w0 w b p0 p1 l0 l1 q0 q1) (k : Ext w w') : Four w0 w' b p0 p1 l0 l1 q0 q1 :=
  ⟨h.p.ext k, h.r.ext k, h.l.ext k, h.q.ext k, h.x.trans k, h.le⟩
theorem Four.setP {w0 w : World} {b : Nat} {p0 p1 l0 l1 q0 q1 : Value} (h : Four w0 w b p0 p1 l0 l1 q0 q1) (u v : Value) : Four w0 ((w.setCell ⟨b, 0, none⟩ u).setCell ⟨b, 1, none⟩ v) b u v l0 l1 q0 q1 :=
  ⟨h.p.set u v, h.r.other (by omega) u v, h.l.other (by omega) u v, h.q.other (by omega) u v, h.x.set2 h.le u v, h.le⟩
theorem Four.setL {w0 w : World} {b : Nat} {p0 p1 l0 l1 q0 q1 : Value} (h : Four w0 w b p0 p1 l0 l1 q0 q1) (u v : Value) : Four w0 ((w.setCell ⟨b + 1 + 1, 0, none⟩ u).setCell ⟨b + 1 + 1, 1, none⟩ v) b p0 p1 u v q0 q1 :=
  ⟨h.p.other (by omega) u v, h.r.other (by omega) u v, h.l.set u v, h.q.other (by omega) u v, h.x.set2 (by have := h.le; omega) u v, h.le⟩
theorem Four.setQ {w0 w : World} {b : Nat} {p0 p1 l0 l1 q0 q1 : Value} (h : Four w0 w b p0 p1 l0 l1 q0 q1) (u v : Value) : Four w0 ((w.setCell ⟨b + 1 + 1 + 1, 0, none⟩ u).setCell ⟨b + 1 + 1 + 1, 1, none⟩ v) b p0 p1 l0 l1 u v :=
  ⟨h.p.other (by omega) u v, h.r.other (by omega) u v, h.l.other (by omega) u v, h.q.set u v, h.x.set2 (by have := h.le; omega) u v, h.le⟩

set_option maxHeartbeats 4000000 in
set_option maxRecDepth 100000 in
theorem rlong_calls (w0 : World) (a c b : Int) (ha : I64 a) (hc : I64 c) (hb : I64 b) (hz : b ≠ 0) (P B : Nat) (hP : W a c = P) (hB : U b = B) (w : World) (h : Ext w0 w) :
    Calls Tryz.prog 57 #[.agg #[.int .i64 a, .int .i64 c], .int .i64 b] w fun e w' => e = .returned (.tuple #[.int .i64 (lo ((P % B : Nat) : Int)), .agg #[.int .i64 (lo ((P / B : Nat) : Int)), .int .i64 (hi ((P / B : Nat) : Int))]]) ∧ Ext w0 w' := by
  have HB : RowKit.Hid (0 < B ∧ B ≤ 18446744073709551615) := by
    have h1 := U_bd b
    have h2 : U b ≠ 0 := by unfold U; unfold I64 at hb; omega
    exact Lib.hid (by omega)
  have HP : RowKit.Hid (P < big ∧ a = lo (P : Int) ∧ c = hi (P : Int)) := by
    have h1 := W_bd a c
    obtain ⟨k, hk⟩ := W_V a c
    rw [hP] at hk h1
    refine Lib.hid ⟨by unfold big; omega, ?_, ?_⟩
    · rw [hk, lo_off, lo_V ha]
    · rw [hk, hi_off, hi_V hc]
  have htw := Lib.hid rtwice_mk
  have hone := Lib.hid radd_one
  have htwo := Lib.hid radd_two
  have hneg := Lib.hid (rneg_low b hb)
  have hul := Lib.hid (fun n h0 h1 X => ruless_low n h0 h1 b hb X)
  clear ha hc hb hz hP
  go_enter Tryz.func57, Tryz.ntmps57
  go_wp2
  have hs0 := h.1.size
  have F0 : Four w0 ((((w.alloc (.cells #[Value.int .i64 a, Value.int .i64 c] 44)).alloc (.cells #[Value.int .i64 0, Value.int .i64 0] 44)).alloc (.cells #[Value.int .i64 0, Value.int .i64 0] 44)).alloc (.cells #[Value.int .i64 0, Value.int .i64 0] 44)) w.heap.size (.int .i64 a) (.int .i64 c) (.int .i64 0) (.int .i64 0) (.int .i64 0) (.int .i64 0) := by
    refine ⟨((Own.last.alloc _ _).alloc _ _).alloc _ _, ?_, ?_, ?_, (((h.cells _ _).cells _ _).cells _ _).cells _ _, hs0⟩
    · have := (Own.last (X := w.alloc (.cells #[Value.int .i64 a, Value.int .i64 c] 44)) (x := Value.int .i64 0) (y := Value.int .i64 0) (t := 44))
      rw [size_alloc] at this
      exact (this.alloc _ _).alloc _ _
    · have := (Own.last (X := (w.alloc (.cells #[Value.int .i64 a, Value.int .i64 c] 44)).alloc (.cells #[Value.int .i64 0, Value.int .i64 0] 44)) (x := Value.int .i64 0) (y := Value.int .i64 0) (t := 44))
      rw [size_alloc, size_alloc] at this
      exact this.alloc _ _
    · have := (Own.last (X := ((w.alloc (.cells #[Value.int .i64 a, Value.int .i64 c] 44)).alloc (.cells #[Value.int .i64 0, Value.int .i64 0] 44)).alloc (.cells #[Value.int .i64 0, Value.int .i64 0] 44)) (x := Value.int .i64 0) (y := Value.int .i64 0) (t := 44))
      rw [size_alloc, size_alloc, size_alloc] at this
      exact this
  go_loopw [8] (fun i wr => ∃ k N : Nat, k ≤ 128 ∧ i = .int .i64 k ∧ N = P * 2 ^ k ∧ Four w0 wr w.heap.size (.int .i64 (lo (N : Int))) (.int .i64 (hi (N : Int))) (.int .i64 (lo ((high N % B : Nat) : Int))) (.int .i64 (hi ((high N % B : Nat) : Int))) (.int .i64 (lo ((high N / B : Nat) : Int))) (.int .i64 (hi ((high N / B : Nat) : Int)))) (fun i _ => 128 - (intOf i).toNat)
  case atStart =>
    have e : high P = 0 := Nat.div_eq_of_lt HP.out.1
    refine ⟨0, P, by omega, rfl, by simp, ?_⟩
    rw [← HP.out.2.1, ← HP.out.2.2, e]
    simpa [lo, hi, wrap64] using F0
  case round =>
    obtain ⟨k, N, hk, rfl, hN, F⟩ := hrel
    clear F0
    have HN := Lib.hid hN
    clear hN
    by_cases hlt : k < 128
    · have hst := high_step N
      obtain ⟨hd1, hd2⟩ := div_step (high N) B (if hi (N : Int) < 0 then 1 else 0) HB.out.1
      rw [← hst] at hd1 hd2
      have hL : high N % B < B := Nat.mod_lt _ HB.out.1
      have hNe : 2 * N = P * 2 ^ (k + 1) := by rw [HN.out, Nat.pow_succ, Nat.mul_left_comm, Nat.mul_comm 2]
      have HNe := Lib.hid hNe
      clear hst hNe
      generalize high N % B = L at *
      generalize high N / B = Q at *
      by_cases hn : hi (N : Int) < 0
      · rw [if_pos hn] at hd1 hd2
        obtain ⟨r1, r2⟩ := rest_step L B 1 hL (by decide)
        rw [r1] at hd1
        rw [r2] at hd2
        clear r1 r2
        by_cases hge : B ≤ 2 * L + 1
        · rw [if_pos hge] at hd1 hd2
          have HD1 : RowKit.Hid (((high (2 * N) / B : Nat) : Int) = 2 * (Q : Int) + 1) := Lib.hid (by rw [hd1]; rfl)
          have HD2 : RowKit.Hid (((high (2 * N) % B : Nat) : Int) = 2 * (L : Int) + 1 + -U b) := Lib.hid (by rw [hd2, hB]; clear hd1 hd2 F; omega)
          clear hd1 hd2
          have ez : decide (2 * (L : Int) + 1 < U b) = false := by rw [hB]; simp; omega
          have Z0 : RowKit.Hid (0 ≤ 2 * (L : Int) + 1) := Lib.hid (by omega)
          have Z1 : RowKit.Hid (2 * (L : Int) + 1 ≤ 340282366920938463463374607431768211455) := Lib.hid (by have := HB.out.2; omega)
          have HU := Lib.hid (fun X => by have h := hul.out (2 * (L : Int) + 1) Z0.out Z1.out X; rw [ez] at h; exact h)
          have HL := Lib.hid hL
          have HB2 := Lib.hid hB
          clear hge hL hB ez Z0 Z1
          have en : decide (hi (N : Int) < 0) = true := by simpa using hn
          clear hn
          have pc0 := F.p.c0
          have pc1 := F.p.c1
          have pf0 := F.p.f0
          have pf1 := F.p.f1
          have lc0 := F.l.c0
          have lc1 := F.l.c1
          have lf0 := F.l.f0
          have lf1 := F.l.f1
          have qc0 := F.q.c0
          have qc1 := F.q.c1
          have qf0 := F.q.f0
          have qf1 := F.q.f1
          have qlt := F.q.lt
          go_wp2_with fail
          refine (htw.out _ _).mono ?_
          rintro e w' ⟨rfl, hx1⟩
          clear pc0 pc1 pf0 pf1 lc0 lc1 lf0 lf1 qc0 qc1 qf0 qf1 qlt
          replace F := F.ext hx1
          clear hx1
          have pc0 := F.p.c0
          have pc1 := F.p.c1
          have pf0 := F.p.f0
          have pf1 := F.p.f1
          have lc0 := F.l.c0
          have lc1 := F.l.c1
          have lf0 := F.l.f0
          have lf1 := F.l.f1
          have qc0 := F.q.c0
          have qc1 := F.q.c1
          have qf0 := F.q.f0
          have qf1 := F.q.f1
          have qlt := F.q.lt
          go_wp2_with fail
          refine (hone.out _ _).mono ?_
          rintro e w' ⟨rfl, hx1⟩
          clear pc0 pc1 pf0 pf1 lc0 lc1 lf0 lf1 qc0 qc1 qf0 qf1 qlt
          replace F := (F.setL _ _).ext hx1
          clear hx1
          have pc0 := F.p.c0
          have pc1 := F.p.c1
          have pf0 := F.p.f0
          have pf1 := F.p.f1
          have lc0 := F.l.c0
          have lc1 := F.l.c1
          have lf0 := F.l.f0
          have lf1 := F.l.f1
          have qc0 := F.q.c0
          have qc1 := F.q.c1
          have qf0 := F.q.f0
          have qf1 := F.q.f1
          have qlt := F.q.lt
          go_wp2_with fail
          refine (htw.out _ _).mono ?_
          rintro e w' ⟨rfl, hx1⟩
          clear pc0 pc1 pf0 pf1 lc0 lc1 lf0 lf1 qc0 qc1 qf0 qf1 qlt
          replace F := (F.setL _ _).ext hx1
          clear hx1
          have pc0 := F.p.c0
          have pc1 := F.p.c1
          have pf0 := F.p.f0
          have pf1 := F.p.f1
          have lc0 := F.l.c0
          have lc1 := F.l.c1
          have lf0 := F.l.f0
          have lf1 := F.l.f1
          have qc0 := F.q.c0
          have qc1 := F.q.c1
          have qf0 := F.q.f0
          have qf1 := F.q.f1
          have qlt := F.q.lt
          go_wp2_with fail
          refine (htw.out _ _).mono ?_
          rintro e w' ⟨rfl, hx1⟩
          clear pc0 pc1 pf0 pf1 lc0 lc1 lf0 lf1 qc0 qc1 qf0 qf1 qlt
          replace F := (F.setP _ _).ext hx1
          clear hx1
          have pc0 := F.p.c0
          have pc1 := F.p.c1
          have pf0 := F.p.f0
          have pf1 := F.p.f1
          have lc0 := F.l.c0
          have lc1 := F.l.c1
          have lf0 := F.l.f0
          have lf1 := F.l.f1
          have qc0 := F.q.c0
          have qc1 := F.q.c1
          have qf0 := F.q.f0
          have qf1 := F.q.f1
          have qlt := F.q.lt
          go_wp2_with fail
          refine (HU.out _).mono ?_
          rintro e w' ⟨rfl, hx1⟩
          clear pc0 pc1 pf0 pf1 lc0 lc1 lf0 lf1 qc0 qc1 qf0 qf1 qlt
          replace F := (F.setQ _ _).ext hx1
          clear hx1
          have pc0 := F.p.c0
          have pc1 := F.p.c1
          have pf0 := F.p.f0
          have pf1 := F.p.f1
          have lc0 := F.l.c0
          have lc1 := F.l.c1
          have lf0 := F.l.f0
          have lf1 := F.l.f1
          have qc0 := F.q.c0
          have qc1 := F.q.c1
          have qf0 := F.q.f0
          have qf1 := F.q.f1
          have qlt := F.q.lt
          go_wp2_with fail
          have Fd := F.ext (Ext.drew (Ext.refl _))
          go_region_with (first | (go_at_call 22; refine (hneg.out _).mono ?_; rintro e w1 ⟨rfl, hx0⟩; have F1 := Fd.ext hx0; clear hx0; have kc0 := F1.l.c0; have kc1 := F1.l.c1) | (go_at_call 35; refine (htwo.out _ _ _).mono ?_; rintro e w2 ⟨rfl, hx0⟩; have F2 := F1.ext hx0; clear hx0; have mc0 := F2.l.c0; have mc1 := F2.l.c1; have mf0 := F2.l.f0; have mf1 := F2.l.f1; have mlt := F2.q.lt))
          all_goals
            clear pc0 pc1 pf0 pf1 lc0 lc1 lf0 lf1 qc0 qc1 qf0 qf1 qlt kc0 kc1 Fd
            have qc0 := F2.q.c0
            have qc1 := F2.q.c1
            have qf0 := F2.q.f0
            have qf1 := F2.q.f1
            go_wp2_with fail
            refine (hone.out _ _).mono ?_
            rintro e w3 ⟨rfl, hx1⟩
            have F4 := (F2.setL _ _).ext hx1
            clear hx1 qc0 qc1 qf0 qf1 mc0 mc1 mf0 mf1 mlt
            have qc0 := F4.q.c0
            have qc1 := F4.q.c1
            have qf0 := F4.q.f0
            have qf1 := F4.q.f1
            have qlt := F4.q.lt
            go_wp2
            go_roundw
            case rel => exact ⟨k + 1, 2 * N, by omega, by go_num, HNe.out, by rw [HD1.out, HD2.out]; exact F4.setQ _ _⟩
            case measure => simp [intOf]; omega
        · rw [if_neg hge] at hd1 hd2
          have HD1 : RowKit.Hid (((high (2 * N) / B : Nat) : Int) = 2 * (Q : Int)) := Lib.hid (by rw [hd1]; rfl)
          have HD2 : RowKit.Hid (((high (2 * N) % B : Nat) : Int) = 2 * (L : Int) + 1) := Lib.hid (by rw [hd2]; rfl)
          clear hd1 hd2
          have ez : decide (2 * (L : Int) + 1 < U b) = true := by rw [hB]; simp; omega
          have Z0 : RowKit.Hid (0 ≤ 2 * (L : Int) + 1) := Lib.hid (by omega)
          have Z1 : RowKit.Hid (2 * (L : Int) + 1 ≤ 340282366920938463463374607431768211455) := Lib.hid (by have := HB.out.2; omega)
          have HU := Lib.hid (fun X => by have h := hul.out (2 * (L : Int) + 1) Z0.out Z1.out X; rw [ez] at h; exact h)
          have HL := Lib.hid hL
          have HB2 := Lib.hid hB
          clear hge hL hB ez Z0 Z1
          have en : decide (hi (N : Int) < 0) = true := by simpa using hn
          clear hn
          have pc0 := F.p.c0
          have pc1 := F.p.c1
          have pf0 := F.p.f0
          have pf1 := F.p.f1
          have lc0 := F.l.c0
          have lc1 := F.l.c1
          have lf0 := F.l.f0
          have lf1 := F.l.f1
          have qc0 := F.q.c0
          have qc1 := F.q.c1
          have qf0 := F.q.f0
          have qf1 := F.q.f1
          have qlt := F.q.lt
          go_wp2_with fail
          refine (htw.out _ _).mono ?_
          rintro e w' ⟨rfl, hx1⟩
          clear pc0 pc1 pf0 pf1 lc0 lc1 lf0 lf1 qc0 qc1 qf0 qf1 qlt
          replace F := F.ext hx1
          clear hx1
          have pc0 := F.p.c0
          have pc1 := F.p.c1
          have pf0 := F.p.f0
          have pf1 := F.p.f1
          have lc0 := F.l.c0
          have lc1 := F.l.c1
          have lf0 := F.l.f0
          have lf1 := F.l.f1
          have qc0 := F.q.c0
          have qc1 := F.q.c1
          have qf0 := F.q.f0
          have qf1 := F.q.f1
          have qlt := F.q.lt
          go_wp2_with fail
          refine (hone.out _ _).mono ?_
          rintro e w' ⟨rfl, hx1⟩
          clear pc0 pc1 pf0 pf1 lc0 lc1 lf0 lf1 qc0 qc1 qf0 qf1 qlt
          replace F := (F.setL _ _).ext hx1
          clear hx1
          have pc0 := F.p.c0
          have pc1 := F.p.c1
          have pf0 := F.p.f0
          have pf1 := F.p.f1
          have lc0 := F.l.c0
          have lc1 := F.l.c1
          have lf0 := F.l.f0
          have lf1 := F.l.f1
          have qc0 := F.q.c0
          have qc1 := F.q.c1
          have qf0 := F.q.f0
          have qf1 := F.q.f1
          have qlt := F.q.lt
          go_wp2_with fail
          refine (htw.out _ _).mono ?_
          rintro e w' ⟨rfl, hx1⟩
          clear pc0 pc1 pf0 pf1 lc0 lc1 lf0 lf1 qc0 qc1 qf0 qf1 qlt
          replace F := (F.setL _ _).ext hx1
          clear hx1
          have pc0 := F.p.c0
          have pc1 := F.p.c1
          have pf0 := F.p.f0
          have pf1 := F.p.f1
          have lc0 := F.l.c0
          have lc1 := F.l.c1
          have lf0 := F.l.f0
          have lf1 := F.l.f1
          have qc0 := F.q.c0
          have qc1 := F.q.c1
          have qf0 := F.q.f0
          have qf1 := F.q.f1
          have qlt := F.q.lt
          go_wp2_with fail
          refine (htw.out _ _).mono ?_
          rintro e w' ⟨rfl, hx1⟩
          clear pc0 pc1 pf0 pf1 lc0 lc1 lf0 lf1 qc0 qc1 qf0 qf1 qlt
          replace F := (F.setP _ _).ext hx1
          clear hx1
          have pc0 := F.p.c0
          have pc1 := F.p.c1
          have pf0 := F.p.f0
          have pf1 := F.p.f1
          have lc0 := F.l.c0
          have lc1 := F.l.c1
          have lf0 := F.l.f0
          have lf1 := F.l.f1
          have qc0 := F.q.c0
          have qc1 := F.q.c1
          have qf0 := F.q.f0
          have qf1 := F.q.f1
          have qlt := F.q.lt
          go_wp2_with fail
          refine (HU.out _).mono ?_
          rintro e w' ⟨rfl, hx1⟩
          clear pc0 pc1 pf0 pf1 lc0 lc1 lf0 lf1 qc0 qc1 qf0 qf1 qlt
          replace F := (F.setQ _ _).ext hx1
          clear hx1
          have pc0 := F.p.c0
          have pc1 := F.p.c1
          have pf0 := F.p.f0
          have pf1 := F.p.f1
          have lc0 := F.l.c0
          have lc1 := F.l.c1
          have lf0 := F.l.f0
          have lf1 := F.l.f1
          have qc0 := F.q.c0
          have qc1 := F.q.c1
          have qf0 := F.q.f0
          have qf1 := F.q.f1
          have qlt := F.q.lt
          go_wp2
          go_roundw
          case rel => exact ⟨k + 1, 2 * N, by omega, by go_num, HNe.out, by rw [HD1.out, HD2.out]; exact F⟩
          case measure => simp [intOf]; omega
      · rw [if_neg hn] at hd1 hd2
        have hn' : 0 ≤ hi (N : Int) := Int.not_lt.1 hn
        obtain ⟨r1, r2⟩ := rest_step L B 0 hL (by decide)
        rw [r1] at hd1
        rw [r2] at hd2
        clear r1 r2
        by_cases hge : B ≤ 2 * L + 0
        · rw [if_pos hge] at hd1 hd2
          have HD1 : RowKit.Hid (((high (2 * N) / B : Nat) : Int) = 2 * (Q : Int) + 1) := Lib.hid (by rw [hd1]; rfl)
          have HD2 : RowKit.Hid (((high (2 * N) % B : Nat) : Int) = 2 * (L : Int) + -U b) := Lib.hid (by rw [hd2, hB]; clear hd1 hd2 F; omega)
          clear hd1 hd2
          have ez : decide (2 * (L : Int) < U b) = false := by rw [hB]; simp; omega
          have Z0 : RowKit.Hid (0 ≤ 2 * (L : Int)) := Lib.hid (by omega)
          have Z1 : RowKit.Hid (2 * (L : Int) ≤ 340282366920938463463374607431768211455) := Lib.hid (by have := HB.out.2; omega)
          have HU := Lib.hid (fun X => by have h := hul.out (2 * (L : Int)) Z0.out Z1.out X; rw [ez] at h; exact h)
          have HL := Lib.hid hL
          have HB2 := Lib.hid hB
          clear hge hL hB ez Z0 Z1
          have en : decide (hi (N : Int) < 0) = false := by simpa using hn
          clear hn hn'
          have pc0 := F.p.c0
          have pc1 := F.p.c1
          have pf0 := F.p.f0
          have pf1 := F.p.f1
          have lc0 := F.l.c0
          have lc1 := F.l.c1
          have lf0 := F.l.f0
          have lf1 := F.l.f1
          have qc0 := F.q.c0
          have qc1 := F.q.c1
          have qf0 := F.q.f0
          have qf1 := F.q.f1
          have qlt := F.q.lt
          go_wp2_with fail
          refine (htw.out _ _).mono ?_
          rintro e w' ⟨rfl, hx1⟩
          clear pc0 pc1 pf0 pf1 lc0 lc1 lf0 lf1 qc0 qc1 qf0 qf1 qlt
          replace F := F.ext hx1
          clear hx1
          have pc0 := F.p.c0
          have pc1 := F.p.c1
          have pf0 := F.p.f0
          have pf1 := F.p.f1
          have lc0 := F.l.c0
          have lc1 := F.l.c1
          have lf0 := F.l.f0
          have lf1 := F.l.f1
          have qc0 := F.q.c0
          have qc1 := F.q.c1
          have qf0 := F.q.f0
          have qf1 := F.q.f1
          have qlt := F.q.lt
          go_wp2_with fail
          refine (htw.out _ _).mono ?_
          rintro e w' ⟨rfl, hx1⟩
          clear pc0 pc1 pf0 pf1 lc0 lc1 lf0 lf1 qc0 qc1 qf0 qf1 qlt
          replace F := (F.setL _ _).ext hx1
          clear hx1
          have pc0 := F.p.c0
          have pc1 := F.p.c1
          have pf0 := F.p.f0
          have pf1 := F.p.f1
          have lc0 := F.l.c0
          have lc1 := F.l.c1
          have lf0 := F.l.f0
          have lf1 := F.l.f1
          have qc0 := F.q.c0
          have qc1 := F.q.c1
          have qf0 := F.q.f0
          have qf1 := F.q.f1
          have qlt := F.q.lt
          go_wp2_with fail
          refine (htw.out _ _).mono ?_
          rintro e w' ⟨rfl, hx1⟩
          clear pc0 pc1 pf0 pf1 lc0 lc1 lf0 lf1 qc0 qc1 qf0 qf1 qlt
          replace F := (F.setP _ _).ext hx1
          clear hx1
          have pc0 := F.p.c0
          have pc1 := F.p.c1
          have pf0 := F.p.f0
          have pf1 := F.p.f1
          have lc0 := F.l.c0
          have lc1 := F.l.c1
          have lf0 := F.l.f0
          have lf1 := F.l.f1
          have qc0 := F.q.c0
          have qc1 := F.q.c1
          have qf0 := F.q.f0
          have qf1 := F.q.f1
          have qlt := F.q.lt
          go_wp2_with fail
          refine (HU.out _).mono ?_
          rintro e w' ⟨rfl, hx1⟩
          clear pc0 pc1 pf0 pf1 lc0 lc1 lf0 lf1 qc0 qc1 qf0 qf1 qlt
          replace F := (F.setQ _ _).ext hx1
          clear hx1
          have pc0 := F.p.c0
          have pc1 := F.p.c1
          have pf0 := F.p.f0
          have pf1 := F.p.f1
          have lc0 := F.l.c0
          have lc1 := F.l.c1
          have lf0 := F.l.f0
          have lf1 := F.l.f1
          have qc0 := F.q.c0
          have qc1 := F.q.c1
          have qf0 := F.q.f0
          have qf1 := F.q.f1
          have qlt := F.q.lt
          go_wp2_with fail
          have Fd := F.ext (Ext.drew (Ext.refl _))
          go_region_with (first | (go_at_call 22; refine (hneg.out _).mono ?_; rintro e w1 ⟨rfl, hx0⟩; have F1 := Fd.ext hx0; clear hx0; have kc0 := F1.l.c0; have kc1 := F1.l.c1) | (go_at_call 35; refine (htwo.out _ _ _).mono ?_; rintro e w2 ⟨rfl, hx0⟩; have F2 := F1.ext hx0; clear hx0; have mc0 := F2.l.c0; have mc1 := F2.l.c1; have mf0 := F2.l.f0; have mf1 := F2.l.f1; have mlt := F2.q.lt))
          all_goals
            clear pc0 pc1 pf0 pf1 lc0 lc1 lf0 lf1 qc0 qc1 qf0 qf1 qlt kc0 kc1 Fd
            have qc0 := F2.q.c0
            have qc1 := F2.q.c1
            have qf0 := F2.q.f0
            have qf1 := F2.q.f1
            go_wp2_with fail
            refine (hone.out _ _).mono ?_
            rintro e w3 ⟨rfl, hx1⟩
            have F4 := (F2.setL _ _).ext hx1
            clear hx1 qc0 qc1 qf0 qf1 mc0 mc1 mf0 mf1 mlt
            have qc0 := F4.q.c0
            have qc1 := F4.q.c1
            have qf0 := F4.q.f0
            have qf1 := F4.q.f1
            have qlt := F4.q.lt
            go_wp2
            go_roundw
            case rel => exact ⟨k + 1, 2 * N, by omega, by go_num, HNe.out, by rw [HD1.out, HD2.out]; exact F4.setQ _ _⟩
            case measure => simp [intOf]; omega
        · rw [if_neg hge] at hd1 hd2
          have HD1 : RowKit.Hid (((high (2 * N) / B : Nat) : Int) = 2 * (Q : Int)) := Lib.hid (by rw [hd1]; rfl)
          have HD2 : RowKit.Hid (((high (2 * N) % B : Nat) : Int) = 2 * (L : Int)) := Lib.hid (by rw [hd2]; rfl)
          clear hd1 hd2
          have ez : decide (2 * (L : Int) < U b) = true := by rw [hB]; simp; omega
          have Z0 : RowKit.Hid (0 ≤ 2 * (L : Int)) := Lib.hid (by omega)
          have Z1 : RowKit.Hid (2 * (L : Int) ≤ 340282366920938463463374607431768211455) := Lib.hid (by have := HB.out.2; omega)
          have HU := Lib.hid (fun X => by have h := hul.out (2 * (L : Int)) Z0.out Z1.out X; rw [ez] at h; exact h)
          have HL := Lib.hid hL
          have HB2 := Lib.hid hB
          clear hge hL hB ez Z0 Z1
          have en : decide (hi (N : Int) < 0) = false := by simpa using hn
          clear hn hn'
          have pc0 := F.p.c0
          have pc1 := F.p.c1
          have pf0 := F.p.f0
          have pf1 := F.p.f1
          have lc0 := F.l.c0
          have lc1 := F.l.c1
          have lf0 := F.l.f0
          have lf1 := F.l.f1
          have qc0 := F.q.c0
          have qc1 := F.q.c1
          have qf0 := F.q.f0
          have qf1 := F.q.f1
          have qlt := F.q.lt
          go_wp2_with fail
          refine (htw.out _ _).mono ?_
          rintro e w' ⟨rfl, hx1⟩
          clear pc0 pc1 pf0 pf1 lc0 lc1 lf0 lf1 qc0 qc1 qf0 qf1 qlt
          replace F := F.ext hx1
          clear hx1
          have pc0 := F.p.c0
          have pc1 := F.p.c1
          have pf0 := F.p.f0
          have pf1 := F.p.f1
          have lc0 := F.l.c0
          have lc1 := F.l.c1
          have lf0 := F.l.f0
          have lf1 := F.l.f1
          have qc0 := F.q.c0
          have qc1 := F.q.c1
          have qf0 := F.q.f0
          have qf1 := F.q.f1
          have qlt := F.q.lt
          go_wp2_with fail
          refine (htw.out _ _).mono ?_
          rintro e w' ⟨rfl, hx1⟩
          clear pc0 pc1 pf0 pf1 lc0 lc1 lf0 lf1 qc0 qc1 qf0 qf1 qlt
          replace F := (F.setL _ _).ext hx1
          clear hx1
          have pc0 := F.p.c0
          have pc1 := F.p.c1
          have pf0 := F.p.f0
          have pf1 := F.p.f1
          have lc0 := F.l.c0
          have lc1 := F.l.c1
          have lf0 := F.l.f0
          have lf1 := F.l.f1
          have qc0 := F.q.c0
          have qc1 := F.q.c1
          have qf0 := F.q.f0
          have qf1 := F.q.f1
          have qlt := F.q.lt
          go_wp2_with fail
          refine (htw.out _ _).mono ?_
          rintro e w' ⟨rfl, hx1⟩
          clear pc0 pc1 pf0 pf1 lc0 lc1 lf0 lf1 qc0 qc1 qf0 qf1 qlt
          replace F := (F.setP _ _).ext hx1
          clear hx1
          have pc0 := F.p.c0
          have pc1 := F.p.c1
          have pf0 := F.p.f0
          have pf1 := F.p.f1
          have lc0 := F.l.c0
          have lc1 := F.l.c1
          have lf0 := F.l.f0
          have lf1 := F.l.f1
          have qc0 := F.q.c0
          have qc1 := F.q.c1
          have qf0 := F.q.f0
          have qf1 := F.q.f1
          have qlt := F.q.lt
          go_wp2_with fail
          refine (HU.out _).mono ?_
          rintro e w' ⟨rfl, hx1⟩
          clear pc0 pc1 pf0 pf1 lc0 lc1 lf0 lf1 qc0 qc1 qf0 qf1 qlt
          replace F := (F.setQ _ _).ext hx1
          clear hx1
          have pc0 := F.p.c0
          have pc1 := F.p.c1
          have pf0 := F.p.f0
          have pf1 := F.p.f1
          have lc0 := F.l.c0
          have lc1 := F.l.c1
          have lf0 := F.l.f0
          have lf1 := F.l.f1
          have qc0 := F.q.c0
          have qc1 := F.q.c1
          have qf0 := F.q.f0
          have qf1 := F.q.f1
          have qlt := F.q.lt
          go_wp2
          go_roundw
          case rel => exact ⟨k + 1, 2 * N, by omega, by go_num, HNe.out, by rw [HD1.out, HD2.out]; exact F⟩
          case measure => simp [intOf]; omega
    · obtain rfl : k = 128 := by omega
      have hh : high N = P := by rw [HN.out]; unfold high big; exact Nat.mul_div_cancel P (by decide)
      rw [hh] at F
      have lc0 := F.l.c0
      have lc1 := F.l.c1
      have qc0 := F.q.c0
      have qc1 := F.q.c1
      have rc0 := F.r.c0
      have rc1 := F.r.c1
      have rf0 := F.r.f0
      have rf1 := F.r.f1
      have qlt := F.q.lt
      clear hh HN htw hone htwo hneg hul HP
      rw [show ((128 : Nat) : Int) = 128 from rfl]
      obtain ⟨R, hR⟩ : ∃ R, R = P % B := ⟨_, rfl⟩
      obtain ⟨D, hD⟩ : ∃ D, D = P / B := ⟨_, rfl⟩
      rw [← hR] at F lc0 lc1
      rw [← hD] at F qc0 qc1
      have HR := Lib.hid hR
      have HD := Lib.hid hD
      clear hR hD
      go_wp2
      go_region
      go_wp2
      refine bodyPost_ret (v := .tuple #[.int .i64 (lo (R : Int)), .agg #[.int .i64 (lo (D : Int)), .int .i64 (hi (D : Int))]]) ?_ rfl ⟨by rw [HR.out, HD.out], (F.x.set2 (by have := F.le; omega) _ _).drew⟩
      simp [results, Tryz.results57, go_sem, rc0, rc1]
end Go.Proofs.YtegcecpmdgljpaaGreatDoor

namespace Go.Proofs.YtegcecpmdgljpaaGreatDoor
open Go.RowKit
set_option linter.unusedVariables false

set_option maxHeartbeats 2000000 in
set_option maxRecDepth 100000 in
theorem mul_calls (w0 : World) (a b : Int) (ha : I64 a) (hb : I64 b) (w : World) (h : Ext w0 w) : Calls Tryz.prog 114 #[.int .i64 a, .int .i64 b] w fun e w' => e = .returned (.agg #[.int .i64 (lo (a * b)), .int .i64 (hi (a * b))]) ∧ Ext w0 w' := by
  have hum := Lib.hid (fun W => umul_calls W a b ha hb W (Ext.refl W))
  by_cases na : a < 0
  · by_cases nb : b < 0
    · have em := mul_is a b ha hb
      simp only [na, nb, if_true] at em
      rw [em.1, em.2]
      clear em ha hb
      go_enter Tryz.func114, Tryz.ntmps114
      go_wp2_with fail
      refine (hum.out _).mono ?_
      rintro e w' ⟨rfl, hx⟩
      have q0 := Own.last.ext hx
      have hx' := (h.cells _ _).trans hx
      have n0 := q0.lt
      have d0 := q0.c0
      have d1 := q0.c1
      have g0 := q0.f0
      have g1 := q0.f1
      have hs0 := h.1.size
      go_wp2
      refine bodyPost_ret (v := .agg #[.int .i64 (lo (U a * U b)), .int .i64 (wrap64 (wrap64 (hi (U a * U b) - b) - a))]) ?_ rfl ⟨rfl, (hx'.set2 hs0 _ _).cells _ _⟩
      simp [results, Tryz.results114, go_sem, d0, d1, n0]
    · have nb' : 0 ≤ b := by omega
      have em := mul_is a b ha hb
      simp only [na, Int.not_lt.2 nb', if_true, if_false] at em
      rw [em.1, em.2]
      clear em ha hb
      go_enter Tryz.func114, Tryz.ntmps114
      go_wp2_with fail
      refine (hum.out _).mono ?_
      rintro e w' ⟨rfl, hx⟩
      have q0 := Own.last.ext hx
      have hx' := (h.cells _ _).trans hx
      have n0 := q0.lt
      have d0 := q0.c0
      have d1 := q0.c1
      have g0 := q0.f0
      have g1 := q0.f1
      have hs0 := h.1.size
      go_wp2
      refine bodyPost_ret (v := .agg #[.int .i64 (lo (U a * U b)), .int .i64 (wrap64 (hi (U a * U b) - b))]) ?_ rfl ⟨rfl, (hx'.set2 hs0 _ _).cells _ _⟩
      simp [results, Tryz.results114, go_sem, d0, d1, n0]
  · have na' : 0 ≤ a := by omega
    by_cases nb : b < 0
    · have em := mul_is a b ha hb
      simp only [Int.not_lt.2 na', nb, if_true, if_false] at em
      rw [em.1, em.2]
      clear em ha hb
      go_enter Tryz.func114, Tryz.ntmps114
      go_wp2_with fail
      refine (hum.out _).mono ?_
      rintro e w' ⟨rfl, hx⟩
      have q0 := Own.last.ext hx
      have hx' := (h.cells _ _).trans hx
      have n0 := q0.lt
      have d0 := q0.c0
      have d1 := q0.c1
      have g0 := q0.f0
      have g1 := q0.f1
      have hs0 := h.1.size
      go_wp2
      refine bodyPost_ret (v := .agg #[.int .i64 (lo (U a * U b)), .int .i64 (wrap64 (hi (U a * U b) - a))]) ?_ rfl ⟨rfl, (hx'.set2 hs0 _ _).cells _ _⟩
      simp [results, Tryz.results114, go_sem, d0, d1, n0]
    · have nb' : 0 ≤ b := by omega
      have em := mul_is a b ha hb
      simp only [Int.not_lt.2 na', Int.not_lt.2 nb', if_false] at em
      rw [em.1, em.2]
      clear em ha hb
      go_enter Tryz.func114, Tryz.ntmps114
      go_wp2_with fail
      refine (hum.out _).mono ?_
      rintro e w' ⟨rfl, hx⟩
      have q0 := Own.last.ext hx
      have hx' := (h.cells _ _).trans hx
      have n0 := q0.lt
      have d0 := q0.c0
      have d1 := q0.c1
      have g0 := q0.f0
      have g1 := q0.f1
      have hs0 := h.1.size
      go_wp2
      refine bodyPost_ret (v := .agg #[.int .i64 (lo (U a * U b)), .int .i64 (hi (U a * U b))]) ?_ rfl ⟨rfl, (hx'.set2 hs0 _ _).cells _ _⟩
      simp [results, Tryz.results114, go_sem, d0, d1, n0]

theorem word_div (h l y : Nat) (hy : 0 < y) : ((h % y) * 18446744073709551616 + l) / y + h / y * 18446744073709551616 = (h * 18446744073709551616 + l) / y ∧ ((h % y) * 18446744073709551616 + l) % y = (h * 18446744073709551616 + l) % y := by
  have e := Nat.div_add_mod h y
  obtain ⟨q, hq⟩ : ∃ q, q = h / y := ⟨_, rfl⟩
  obtain ⟨r, hr⟩ : ∃ q, q = h % y := ⟨_, rfl⟩
  rw [← hq, ← hr] at e ⊢
  have e2 : h * 18446744073709551616 + l = (r * 18446744073709551616 + l) + y * (q * 18446744073709551616) := by
    rw [← Nat.mul_assoc]; omega
  rw [e2, Nat.add_mul_div_left _ _ hy, Nat.add_mul_mod_self_left]
  exact ⟨rfl, rfl⟩
theorem lo_hi_nat (x y : Nat) (hy : y < 18446744073709551616) (hx : x < 18446744073709551616) : wrap64 (y : Int) = lo ((y + x * 18446744073709551616 : Nat) : Int) ∧ wrap64 (x : Int) = hi ((y + x * 18446744073709551616 : Nat) : Int) := by
  unfold lo hi wrap64; omega
theorem W_nat (a c : Int) : ∃ X Y P : Nat, U a = X ∧ U c = Y ∧ W a c = P ∧ P = Y * 18446744073709551616 + X ∧ X < 18446744073709551616 ∧ Y < 18446744073709551616 := by
  obtain ⟨a1, a2⟩ := U_bd a
  obtain ⟨b1, b2⟩ := U_bd c
  obtain ⟨X, hX⟩ := Int.eq_ofNat_of_zero_le a1
  obtain ⟨Y, hY⟩ := Int.eq_ofNat_of_zero_le b1
  refine ⟨X, Y, Y * 18446744073709551616 + X, hX, hY, ?_, rfl, by omega, by omega⟩
  unfold W
  omega
set_option maxRecDepth 100000 in
theorem divide_calls (w0 : World) (a c : Int) (P B : Nat) (hP : W a c = P) (hB : 0 < B) (hB2 : B < 18446744073709551616) (w : World) (h : Ext w0 w) :
    Calls Tryz.prog 205 #[.agg #[.int .i64 a, .int .i64 c], .int .u64 (B : Int)] w fun e w' => e = .returned (.tuple #[.int .u64 ((P % B : Nat) : Int), .agg #[.int .i64 (lo ((P / B : Nat) : Int)), .int .i64 (hi ((P / B : Nat) : Int))]]) ∧ Ext w0 w' := by
  obtain ⟨X, Y, P', hX, hY, hP', hPe, hXl, hYl⟩ := W_nat a c
  obtain rfl : P' = P := by omega
  have ea : IntKind.u64.wrap a = (X : Int) := by rw [← hX]; exact u64_wrap a
  have ec : IntKind.u64.wrap c = (Y : Int) := by rw [← hY]; exact u64_wrap c
  have hr1 : Y % B < B := Nat.mod_lt _ hB
  have hc1 := Lib.hid (fun w => div64_calls w 0 Y B hB hYl hB2 w (Ext.refl w))
  have hc2 := Lib.hid (fun w => div64_calls w (Y % B) X B hr1 hXl hB2 w (Ext.refl w))
  simp only [Nat.zero_mul, Nat.zero_add] at hc1
  obtain ⟨w1, w2⟩ := word_div Y X B hB
  rw [← hPe] at w1 w2
  have q1 : (Y % B * 18446744073709551616 + X) / B < 18446744073709551616 := by
    rw [Nat.div_lt_iff_lt_mul hB]
    calc Y % B * 18446744073709551616 + X < (Y % B + 1) * 18446744073709551616 := by omega
      _ ≤ B * 18446744073709551616 := Nat.mul_le_mul_right _ hr1
      _ = 18446744073709551616 * B := Nat.mul_comm _ _
  have q2 : Y / B < 18446744073709551616 := Nat.lt_of_le_of_lt (Nat.div_le_self _ _) hYl
  obtain ⟨l1, l2⟩ := lo_hi_nat (Y / B) ((Y % B * 18446744073709551616 + X) / B) q1 q2
  rw [w1] at l1 l2
  rw [← l1, ← l2]
  rw [w2] at hc2
  obtain ⟨ra, hra⟩ : ∃ r, r = Y % B := ⟨_, rfl⟩
  obtain ⟨qa, hqa⟩ : ∃ r, r = Y / B := ⟨_, rfl⟩
  rw [← hra] at hc1 hc2 ⊢
  rw [← hqa] at hc1 ⊢
  obtain ⟨qb, hqb⟩ : ∃ r, r = (ra * 18446744073709551616 + X) / B := ⟨_, rfl⟩
  obtain ⟨rb, hrb⟩ : ∃ r, r = P' % B := ⟨_, rfl⟩
  rw [← hqb] at hc2 ⊢
  rw [← hrb] at hc2 ⊢
  clear hX hY hP' hP hPe hXl hYl hr1 w1 w2 q1 q2 l1 l2 hra hqa hqb hrb hB hB2
  go_enter Tryz.func205, Tryz.ntmps205
  go_wp2_with fail
  refine (hc1.out _).mono ?_
  rintro e w1 ⟨rfl, hx1⟩
  have p0 := (Own.last (X := w) (x := Value.int .i64 a) (y := Value.int .i64 c) (t := 44)).alloc #[Value.int .i64 0, Value.int .i64 0] 44 |>.ext hx1
  have r0 := (Own.last (X := w.alloc (.cells #[Value.int .i64 a, Value.int .i64 c] 44)) (x := Value.int .i64 0) (y := Value.int .i64 0) (t := 44)).ext hx1
  rw [size_alloc] at r0
  have hX := ((h.cells _ _).cells _ _).trans hx1
  have hs0 := h.1.size
  clear h hx1 hc1
  have c0 := p0.c0
  have c1 := p0.c1
  go_wp2_with fail
  refine (hc2.out _).mono ?_
  rintro e w2 ⟨rfl, hx2⟩
  have r1 := r0.ext hx2
  have hX2 := hX.trans hx2
  clear hx2 hc2 p0 r0 hX c0 c1
  go_wp2_with fail
  refine (frombits_calls _ _ _ _ (Ext.refl _)).mono ?_
  rintro e w3 ⟨rfl, hx3⟩
  have r2 := r1.ext hx3
  have hX3 := hX2.trans hx3
  clear hx3 r1 hX2
  have c0 := r2.c0
  have c1 := r2.c1
  have f0 := r2.f0
  have f1 := r2.f1
  have lt := r2.lt
  go_wp2
  exact bodyPost_ret (v := .tuple #[.int .u64 (rb : Int), .agg #[.int .i64 (wrap64 (qb : Int)), .int .i64 (wrap64 (qa : Int))]]) (by simp [results, Tryz.results205, go_sem, c0, c1]) rfl ⟨rfl, hX3.set2 (by omega) _ _⟩
end Go.Proofs.YtegcecpmdgljpaaGreatDoor

namespace Go.Proofs.YtegcecpmdgljpaaGreatDoor
open Go.RowKit
set_option linter.unusedVariables false

theorem neg_same (n : Int) : lo (-V (lo n) (hi n)) = lo (-n) ∧ hi (-V (lo n) (hi n)) = hi (-n) := by
  obtain ⟨k, hk⟩ := V_mk n
  exact same (-k) (by rw [hk]; omega)
theorem neg_mk (n : Int) (W : World) : Calls Tryz.prog 104 #[.agg #[.int .i64 (lo n), .int .i64 (hi n)]] W fun e w' => e = .returned (.agg #[.int .i64 (lo (-n)), .int .i64 (hi (-n))]) ∧ Ext W w' := by
  have h := neg_calls W (lo n) (hi n) (lo_i64 n) (hi_i64 n) W (Ext.refl W)
  rw [(neg_same n).1, (neg_same n).2] at h
  exact h
theorem own2 (w : World) (a b c d : Value) : Own ((w.alloc (.cells #[a, b] 44)).alloc (.cells #[c, d] 44)) w.heap.size a b ∧ Own ((w.alloc (.cells #[a, b] 44)).alloc (.cells #[c, d] 44)) (w.heap.size + 1) c d := by
  refine ⟨Own.last.alloc _ _, ?_⟩
  have h := Own.last (X := w.alloc (.cells #[a, b] 44)) (x := c) (y := d) (t := 44)
  rwa [size_alloc] at h
theorem own3 (w : World) (a b c d e f : Value) : Own (((w.alloc (.cells #[a, b] 44)).alloc (.cells #[c, d] 44)).alloc (.cells #[e, f] 44)) w.heap.size a b ∧ Own (((w.alloc (.cells #[a, b] 44)).alloc (.cells #[c, d] 44)).alloc (.cells #[e, f] 44)) (w.heap.size + 1) c d
    ∧ Own (((w.alloc (.cells #[a, b] 44)).alloc (.cells #[c, d] 44)).alloc (.cells #[e, f] 44)) (w.heap.size + 1 + 1) e f := by
  refine ⟨(own2 w a b c d).1.alloc _ _, (own2 w a b c d).2.alloc _ _, ?_⟩
  have h := Own.last (X := (w.alloc (.cells #[a, b] 44)).alloc (.cells #[c, d] 44)) (x := e) (y := f) (t := 44)
  rwa [size_alloc, size_alloc] at h

set_option maxRecDepth 100000 in
set_option maxHeartbeats 1000000 in
theorem truncate_pp (w0 : World) (a c b : Int) (ha : I64 a) (hc : I64 c) (hb : I64 b) (P B : Nat) (hv : V a c = (P : Int)) (hB : b = (B : Int)) (hp : 0 < B) (hn : 0 ≤ c) (w : World) (h : Ext w0 w) :
    Calls Tryz.prog 206 #[.agg #[.int .i64 a, .int .i64 c], .int .i64 b] w fun e w' => e = .returned (.tuple #[.int .i64 (((P % B : Nat) : Int)), .agg #[.int .i64 (lo (((P / B : Nat) : Int))), .int .i64 (hi (((P / B : Nat) : Int)))]]) ∧ Ext w0 w' := by
  have hb2 : 0 ≤ b := by omega
  have dc : decide (c < 0) = false := by simp; omega
  have db : decide (b < 0) = false := by simp; omega
  have hbl := i64_bd hb
  have hvb := V_bd (l := a) hc
  have hR : P % B < B := Nat.mod_lt _ hp
  have er : wrap64 ((P % B : Nat) : Int) = ((P % B : Nat) : Int) := wrap_id (by unfold I64; omega)
  have en : wrap64 (-((P % B : Nat) : Int)) = -((P % B : Nat) : Int) := wrap_id (by unfold I64; omega)
  have eb : IntKind.u64.wrap b = (B : Int) := by rw [u64_wrap]; omega
  have hW : W a c = P := by unfold W; unfold V at hv; have : U c = c := by unfold U; have := i64_bd hc; omega
                            rw [this]; exact hv
  have hdv := Lib.hid (fun w => divide_calls w a c P B hW hp (by omega) w (Ext.refl w))
  obtain ⟨R, hR'⟩ : ∃ r, r = P % B := ⟨_, rfl⟩
  rw [← hR'] at er en hdv ⊢
  obtain ⟨q0, hq0⟩ : ∃ r, r = lo ((P / B : Nat) : Int) := ⟨_, rfl⟩
  obtain ⟨q1, hq1⟩ : ∃ r, r = hi ((P / B : Nat) : Int) := ⟨_, rfl⟩
  rw [← hq0, ← hq1] at hdv ⊢
  clear hR hR' hq0 hq1 hvb hbl hB hv hp hW ha hc hb
  go_enter Tryz.func206, Tryz.ntmps206
  go_wp2_with fail
  have hs0 := h.1.size
  obtain ⟨o0, o1, o2⟩ := own3 w (.int .i64 a) (.int .i64 c) (.int .i64 0) (.int .i64 0) (.int .i64 a) (.int .i64 c)
  have hX := ((h.cells #[.int .i64 a, .int .i64 c] 44).cells #[.int .i64 0, .int .i64 0] 44).cells #[.int .i64 a, .int .i64 c] 44
  clear h
  refine (hdv.out _).mono ?_
  rintro e w2 ⟨rfl, hx2⟩
  replace o0 := o0.ext hx2
  replace o1 := o1.ext hx2
  replace hX := hX.trans hx2
  clear hx2 hdv o2
  have g0 := o1.c0
  have g1 := o1.c1
  have f0 := o1.f0
  have f1 := o1.f1
  have lt := o1.lt
  have k1 := o0.c1
  go_wp2_with fail
  replace o1 := o1.set (.int .i64 q0) (.int .i64 q1)
  replace hX := hX.set2 (n := w.heap.size + 1) (by omega) (.int .i64 q0) (.int .i64 q1)
  go_region
  go_wp2
  refine bodyPost_ret (v := .tuple #[.int .i64 ((R : Int)), .agg #[.int .i64 q0, .int .i64 q1]]) ?_ rfl ⟨rfl, (hX.set2 (n := w.heap.size + 1) (by omega) _ _).drew⟩
  have o9 := o1.set (.int .i64 q0) (.int .i64 q1)
  have k0 := o9.c0
  have k1 := o9.c1
  simp [results, Tryz.results206, go_sem, k0, k1, er]
set_option maxRecDepth 100000 in
set_option maxHeartbeats 1000000 in
theorem truncate_pn (w0 : World) (a c b : Int) (ha : I64 a) (hc : I64 c) (hb : I64 b) (P B : Nat) (hv : V a c = (P : Int)) (hB : b = -(B : Int)) (hp : 0 < B) (hn : 0 ≤ c) (w : World) (h : Ext w0 w) :
    Calls Tryz.prog 206 #[.agg #[.int .i64 a, .int .i64 c], .int .i64 b] w fun e w' => e = .returned (.tuple #[.int .i64 (((P % B : Nat) : Int)), .agg #[.int .i64 (lo (-((P / B : Nat) : Int))), .int .i64 (hi (-((P / B : Nat) : Int)))]]) ∧ Ext w0 w' := by
  have hb2 : b < 0 := by omega
  have dc : decide (c < 0) = false := by simp; omega
  have db : decide (b < 0) = true := by simp; omega
  have hbl := i64_bd hb
  have hvb := V_bd (l := a) hc
  have hR : P % B < B := Nat.mod_lt _ hp
  have er : wrap64 ((P % B : Nat) : Int) = ((P % B : Nat) : Int) := wrap_id (by unfold I64; omega)
  have en : wrap64 (-((P % B : Nat) : Int)) = -((P % B : Nat) : Int) := wrap_id (by unfold I64; omega)
  have eb : IntKind.u64.wrap (wrap64 (-b)) = (B : Int) := by rw [u64_wrap]; unfold wrap64; omega
  have hW : W a c = P := by unfold W; unfold V at hv; have : U c = c := by unfold U; have := i64_bd hc; omega
                            rw [this]; exact hv
  have hdv := Lib.hid (fun w => divide_calls w a c P B hW hp (by omega) w (Ext.refl w))
  have hn2 := Lib.hid (fun w => neg_mk ((P / B : Nat) : Int) w)
  obtain ⟨R, hR'⟩ : ∃ r, r = P % B := ⟨_, rfl⟩
  rw [← hR'] at er en hdv ⊢
  obtain ⟨q0, hq0⟩ : ∃ r, r = lo ((P / B : Nat) : Int) := ⟨_, rfl⟩
  obtain ⟨q1, hq1⟩ : ∃ r, r = hi ((P / B : Nat) : Int) := ⟨_, rfl⟩
  rw [← hq0, ← hq1] at hdv hn2
  obtain ⟨p0, hp0⟩ : ∃ r, r = lo (-((P / B : Nat) : Int)) := ⟨_, rfl⟩
  obtain ⟨p1, hp1⟩ : ∃ r, r = hi (-((P / B : Nat) : Int)) := ⟨_, rfl⟩
  rw [← hp0, ← hp1] at hn2 ⊢
  clear hp0 hp1
  clear hR hR' hq0 hq1 hvb hbl hB hv hp hW ha hc hb
  go_enter Tryz.func206, Tryz.ntmps206
  go_wp2_with fail
  have hs0 := h.1.size
  obtain ⟨o0, o1, o2⟩ := own3 w (.int .i64 a) (.int .i64 c) (.int .i64 0) (.int .i64 0) (.int .i64 a) (.int .i64 c)
  have hX := ((h.cells #[.int .i64 a, .int .i64 c] 44).cells #[.int .i64 0, .int .i64 0] 44).cells #[.int .i64 a, .int .i64 c] 44
  clear h
  refine (hdv.out _).mono ?_
  rintro e w2 ⟨rfl, hx2⟩
  replace o0 := o0.ext hx2
  replace o1 := o1.ext hx2
  replace hX := hX.trans hx2
  clear hx2 hdv o2
  have g0 := o1.c0
  have g1 := o1.c1
  have f0 := o1.f0
  have f1 := o1.f1
  have lt := o1.lt
  have k1 := o0.c1
  go_wp2_with fail
  refine (hn2.out _).mono ?_
  rintro e w3 ⟨rfl, hx3⟩
  replace o0 := (o0.other (b' := w.heap.size + 1) (by omega) (.int .i64 q0) (.int .i64 q1)).ext hx3
  replace o1 := (o1.set (.int .i64 q0) (.int .i64 q1)).ext hx3
  replace hX := (hX.set2 (n := w.heap.size + 1) (by omega) (.int .i64 q0) (.int .i64 q1)).trans hx3
  clear hx3 hn2 g0 g1 f0 f1 lt k1
  have g0 := o1.c0
  have g1 := o1.c1
  have f0 := o1.f0
  have f1 := o1.f1
  have lt := o1.lt
  go_wp2_with fail
  replace o1 := o1.set (.int .i64 p0) (.int .i64 p1)
  replace hX := hX.set2 (n := w.heap.size + 1) (by omega) (.int .i64 p0) (.int .i64 p1)
  go_region
  go_wp2
  refine bodyPost_ret (v := .tuple #[.int .i64 ((R : Int)), .agg #[.int .i64 p0, .int .i64 p1]]) ?_ rfl ⟨rfl, (hX.set2 (n := w.heap.size + 1) (by omega) _ _).drew⟩
  have o9 := o1.set (.int .i64 p0) (.int .i64 p1)
  have k0 := o9.c0
  have k1 := o9.c1
  simp [results, Tryz.results206, go_sem, k0, k1]
set_option maxRecDepth 100000 in
set_option maxHeartbeats 1000000 in
theorem truncate_np (w0 : World) (a c b : Int) (ha : I64 a) (hc : I64 c) (hb : I64 b) (P B : Nat) (hv : V a c = -(P : Int)) (hB : b = (B : Int)) (hp : 0 < B) (hn : c < 0) (w : World) (h : Ext w0 w) :
    Calls Tryz.prog 206 #[.agg #[.int .i64 a, .int .i64 c], .int .i64 b] w fun e w' => e = .returned (.tuple #[.int .i64 (-((P % B : Nat) : Int)), .agg #[.int .i64 (lo (-((P / B : Nat) : Int))), .int .i64 (hi (-((P / B : Nat) : Int)))]]) ∧ Ext w0 w' := by
  have hb2 : 0 ≤ b := by omega
  have dc : decide (c < 0) = true := by simp; omega
  have db : decide (b < 0) = false := by simp; omega
  have hbl := i64_bd hb
  have hvb := V_bd (l := a) hc
  have hR : P % B < B := Nat.mod_lt _ hp
  have er : wrap64 ((P % B : Nat) : Int) = ((P % B : Nat) : Int) := wrap_id (by unfold I64; omega)
  have en : wrap64 (-((P % B : Nat) : Int)) = -((P % B : Nat) : Int) := wrap_id (by unfold I64; omega)
  have eb : IntKind.u64.wrap b = (B : Int) := by rw [u64_wrap]; omega
  have hng := Lib.hid (fun w => neg_calls w a c ha hc w (Ext.refl w))
  rw [hv, Int.neg_neg] at hng
  have hW : W (lo (P : Int)) (hi (P : Int)) = P := W_mk _ (by omega) (by omega)
  obtain ⟨x, hx⟩ : ∃ x, x = lo (P : Int) := ⟨_, rfl⟩
  obtain ⟨y, hy⟩ : ∃ x, x = hi (P : Int) := ⟨_, rfl⟩
  rw [← hx, ← hy] at hng hW
  have hdv := Lib.hid (fun w => divide_calls w x y P B hW hp (by omega) w (Ext.refl w))
  have hn2 := Lib.hid (fun w => neg_mk ((P / B : Nat) : Int) w)
  obtain ⟨R, hR'⟩ : ∃ r, r = P % B := ⟨_, rfl⟩
  rw [← hR'] at er en hdv ⊢
  obtain ⟨q0, hq0⟩ : ∃ r, r = lo ((P / B : Nat) : Int) := ⟨_, rfl⟩
  obtain ⟨q1, hq1⟩ : ∃ r, r = hi ((P / B : Nat) : Int) := ⟨_, rfl⟩
  rw [← hq0, ← hq1] at hdv hn2
  obtain ⟨p0, hp0⟩ : ∃ r, r = lo (-((P / B : Nat) : Int)) := ⟨_, rfl⟩
  obtain ⟨p1, hp1⟩ : ∃ r, r = hi (-((P / B : Nat) : Int)) := ⟨_, rfl⟩
  rw [← hp0, ← hp1] at hn2 ⊢
  clear hp0 hp1
  clear hR hR' hq0 hq1 hvb hbl hB hv hp hW hx hy ha hc hb
  go_enter Tryz.func206, Tryz.ntmps206
  go_wp2_with fail
  have hs0 := h.1.size
  obtain ⟨o0, o1, o2⟩ := own3 w (.int .i64 a) (.int .i64 c) (.int .i64 0) (.int .i64 0) (.int .i64 a) (.int .i64 c)
  have hX := ((h.cells #[.int .i64 a, .int .i64 c] 44).cells #[.int .i64 0, .int .i64 0] 44).cells #[.int .i64 a, .int .i64 c] 44
  clear h
  refine (hng.out _).mono ?_
  rintro e w1 ⟨rfl, hx1⟩
  replace o0 := o0.ext hx1
  replace o1 := o1.ext hx1
  replace o2 := o2.ext hx1
  replace hX := hX.trans hx1
  clear hx1 hng
  have g0 := o2.c0
  have g1 := o2.c1
  have f0 := o2.f0
  have f1 := o2.f1
  have lt := o2.lt
  go_wp2_with fail
  replace o0 := o0.other (b' := w.heap.size + 1 + 1) (by omega) (.int .i64 x) (.int .i64 y)
  replace o1 := o1.other (b' := w.heap.size + 1 + 1) (by omega) (.int .i64 x) (.int .i64 y)
  replace o2 := o2.set (.int .i64 x) (.int .i64 y)
  replace hX := hX.set2 (n := w.heap.size + 1 + 1) (by omega) (.int .i64 x) (.int .i64 y)
  clear g0 g1 f0 f1 lt
  refine (hdv.out _).mono ?_
  rintro e w2 ⟨rfl, hx2⟩
  replace o0 := o0.ext hx2
  replace o1 := o1.ext hx2
  replace hX := hX.trans hx2
  clear hx2 hdv o2
  have g0 := o1.c0
  have g1 := o1.c1
  have f0 := o1.f0
  have f1 := o1.f1
  have lt := o1.lt
  have k1 := o0.c1
  go_wp2_with fail
  refine (hn2.out _).mono ?_
  rintro e w3 ⟨rfl, hx3⟩
  replace o0 := (o0.other (b' := w.heap.size + 1) (by omega) (.int .i64 q0) (.int .i64 q1)).ext hx3
  replace o1 := (o1.set (.int .i64 q0) (.int .i64 q1)).ext hx3
  replace hX := (hX.set2 (n := w.heap.size + 1) (by omega) (.int .i64 q0) (.int .i64 q1)).trans hx3
  clear hx3 hn2 g0 g1 f0 f1 lt k1
  have g0 := o1.c0
  have g1 := o1.c1
  have f0 := o1.f0
  have f1 := o1.f1
  have lt := o1.lt
  go_wp2_with fail
  replace o1 := o1.set (.int .i64 p0) (.int .i64 p1)
  replace hX := hX.set2 (n := w.heap.size + 1) (by omega) (.int .i64 p0) (.int .i64 p1)
  go_region
  go_wp2
  refine bodyPost_ret (v := .tuple #[.int .i64 (-(R : Int)), .agg #[.int .i64 p0, .int .i64 p1]]) ?_ rfl ⟨rfl, (hX.set2 (n := w.heap.size + 1) (by omega) _ _).drew⟩
  have o9 := o1.set (.int .i64 p0) (.int .i64 p1)
  have k0 := o9.c0
  have k1 := o9.c1
  simp [results, Tryz.results206, go_sem, k0, k1]
set_option maxRecDepth 100000 in
set_option maxHeartbeats 1000000 in
theorem truncate_nn (w0 : World) (a c b : Int) (ha : I64 a) (hc : I64 c) (hb : I64 b) (P B : Nat) (hv : V a c = -(P : Int)) (hB : b = -(B : Int)) (hp : 0 < B) (hn : c < 0) (w : World) (h : Ext w0 w) :
    Calls Tryz.prog 206 #[.agg #[.int .i64 a, .int .i64 c], .int .i64 b] w fun e w' => e = .returned (.tuple #[.int .i64 (-((P % B : Nat) : Int)), .agg #[.int .i64 (lo (((P / B : Nat) : Int))), .int .i64 (hi (((P / B : Nat) : Int)))]]) ∧ Ext w0 w' := by
  have hb2 : b < 0 := by omega
  have dc : decide (c < 0) = true := by simp; omega
  have db : decide (b < 0) = true := by simp; omega
  have hbl := i64_bd hb
  have hvb := V_bd (l := a) hc
  have hR : P % B < B := Nat.mod_lt _ hp
  have er : wrap64 ((P % B : Nat) : Int) = ((P % B : Nat) : Int) := wrap_id (by unfold I64; omega)
  have en : wrap64 (-((P % B : Nat) : Int)) = -((P % B : Nat) : Int) := wrap_id (by unfold I64; omega)
  have eb : IntKind.u64.wrap (wrap64 (-b)) = (B : Int) := by rw [u64_wrap]; unfold wrap64; omega
  have hng := Lib.hid (fun w => neg_calls w a c ha hc w (Ext.refl w))
  rw [hv, Int.neg_neg] at hng
  have hW : W (lo (P : Int)) (hi (P : Int)) = P := W_mk _ (by omega) (by omega)
  obtain ⟨x, hx⟩ : ∃ x, x = lo (P : Int) := ⟨_, rfl⟩
  obtain ⟨y, hy⟩ : ∃ x, x = hi (P : Int) := ⟨_, rfl⟩
  rw [← hx, ← hy] at hng hW
  have hdv := Lib.hid (fun w => divide_calls w x y P B hW hp (by omega) w (Ext.refl w))
  obtain ⟨R, hR'⟩ : ∃ r, r = P % B := ⟨_, rfl⟩
  rw [← hR'] at er en hdv ⊢
  obtain ⟨q0, hq0⟩ : ∃ r, r = lo ((P / B : Nat) : Int) := ⟨_, rfl⟩
  obtain ⟨q1, hq1⟩ : ∃ r, r = hi ((P / B : Nat) : Int) := ⟨_, rfl⟩
  rw [← hq0, ← hq1] at hdv ⊢
  clear hR hR' hq0 hq1 hvb hbl hB hv hp hW hx hy ha hc hb
  go_enter Tryz.func206, Tryz.ntmps206
  go_wp2_with fail
  have hs0 := h.1.size
  obtain ⟨o0, o1, o2⟩ := own3 w (.int .i64 a) (.int .i64 c) (.int .i64 0) (.int .i64 0) (.int .i64 a) (.int .i64 c)
  have hX := ((h.cells #[.int .i64 a, .int .i64 c] 44).cells #[.int .i64 0, .int .i64 0] 44).cells #[.int .i64 a, .int .i64 c] 44
  clear h
  refine (hng.out _).mono ?_
  rintro e w1 ⟨rfl, hx1⟩
  replace o0 := o0.ext hx1
  replace o1 := o1.ext hx1
  replace o2 := o2.ext hx1
  replace hX := hX.trans hx1
  clear hx1 hng
  have g0 := o2.c0
  have g1 := o2.c1
  have f0 := o2.f0
  have f1 := o2.f1
  have lt := o2.lt
  go_wp2_with fail
  replace o0 := o0.other (b' := w.heap.size + 1 + 1) (by omega) (.int .i64 x) (.int .i64 y)
  replace o1 := o1.other (b' := w.heap.size + 1 + 1) (by omega) (.int .i64 x) (.int .i64 y)
  replace o2 := o2.set (.int .i64 x) (.int .i64 y)
  replace hX := hX.set2 (n := w.heap.size + 1 + 1) (by omega) (.int .i64 x) (.int .i64 y)
  clear g0 g1 f0 f1 lt
  refine (hdv.out _).mono ?_
  rintro e w2 ⟨rfl, hx2⟩
  replace o0 := o0.ext hx2
  replace o1 := o1.ext hx2
  replace hX := hX.trans hx2
  clear hx2 hdv o2
  have g0 := o1.c0
  have g1 := o1.c1
  have f0 := o1.f0
  have f1 := o1.f1
  have lt := o1.lt
  have k1 := o0.c1
  go_wp2_with fail
  replace o1 := o1.set (.int .i64 q0) (.int .i64 q1)
  replace hX := hX.set2 (n := w.heap.size + 1) (by omega) (.int .i64 q0) (.int .i64 q1)
  go_region
  go_wp2
  refine bodyPost_ret (v := .tuple #[.int .i64 (-(R : Int)), .agg #[.int .i64 q0, .int .i64 q1]]) ?_ rfl ⟨rfl, (hX.set2 (n := w.heap.size + 1) (by omega) _ _).drew⟩
  have o9 := o1.set (.int .i64 q0) (.int .i64 q1)
  have k0 := o9.c0
  have k1 := o9.c1
  simp [results, Tryz.results206, go_sem, k0, k1, en]

theorem truncate_calls (w0 : World) (a c b : Int) (ha : I64 a) (hc : I64 c) (hb : I64 b) (hz : b ≠ 0) (w : World) (h : Ext w0 w) :
    Calls Tryz.prog 206 #[.agg #[.int .i64 a, .int .i64 c], .int .i64 b] w fun e w' => e = .returned (.tuple #[.int .i64 ((V a c).tmod b), .agg #[.int .i64 (lo ((V a c).tdiv b)), .int .i64 (hi ((V a c).tdiv b))]]) ∧ Ext w0 w' := by
  have hs := V_neg a c ha hc
  by_cases hn : c < 0
  · obtain ⟨P, hP⟩ := Int.eq_ofNat_of_zero_le (show 0 ≤ -V a c by omega)
    have hv : V a c = -(P : Int) := by omega
    by_cases hbn : b < 0
    · obtain ⟨B, hB⟩ := Int.eq_ofNat_of_zero_le (show 0 ≤ -b by omega)
      have hb2 : b = -(B : Int) := by omega
      have e1 : (V a c).tmod b = -((P % B : Nat) : Int) := by rw [hv, hb2, Int.neg_tmod, Int.tmod_neg]; rfl
      have e2 : (V a c).tdiv b = ((P / B : Nat) : Int) := by rw [hv, hb2, Int.neg_tdiv, Int.tdiv_neg, Int.neg_neg]; rfl
      rw [e1, e2]
      exact truncate_nn w0 a c b ha hc hb P B hv hb2 (by omega) hn w h
    · obtain ⟨B, hB⟩ := Int.eq_ofNat_of_zero_le (show 0 ≤ b by omega)
      have e1 : (V a c).tmod b = -((P % B : Nat) : Int) := by rw [hv, hB, Int.neg_tmod]; rfl
      have e2 : (V a c).tdiv b = -((P / B : Nat) : Int) := by rw [hv, hB, Int.neg_tdiv]; rfl
      rw [e1, e2]
      exact truncate_np w0 a c b ha hc hb P B hv hB (by omega) hn w h
  · obtain ⟨P, hP⟩ := Int.eq_ofNat_of_zero_le (show 0 ≤ V a c by omega)
    by_cases hbn : b < 0
    · obtain ⟨B, hB⟩ := Int.eq_ofNat_of_zero_le (show 0 ≤ -b by omega)
      have hb2 : b = -(B : Int) := by omega
      have e1 : (V a c).tmod b = ((P % B : Nat) : Int) := by rw [hP, hb2, Int.tmod_neg]; rfl
      have e2 : (V a c).tdiv b = -((P / B : Nat) : Int) := by rw [hP, hb2, Int.tdiv_neg]; rfl
      rw [e1, e2]
      exact truncate_pn w0 a c b ha hc hb P B hP hb2 (by omega) (by omega) w h
    · obtain ⟨B, hB⟩ := Int.eq_ofNat_of_zero_le (show 0 ≤ b by omega)
      have e1 : (V a c).tmod b = ((P % B : Nat) : Int) := by rw [hP, hB]; rfl
      have e2 : (V a c).tdiv b = ((P / B : Nat) : Int) := by rw [hP, hB]; rfl
      rw [e1, e2]
      exact truncate_pp w0 a c b ha hc hb P B hP hB (by omega) (by omega) w h
end Go.Proofs.YtegcecpmdgljpaaGreatDoor

namespace Go.Proofs.YtegcecpmdgljpaaGreatDoor
open Go.RowKit
set_option linter.unusedVariables false

/-- Is an integer a cell? -/
def cel (q : Int) : Bool := decide (-9223372036854775808 ≤ q ∧ q ≤ 9223372036854775807)
theorem cel_yes {q : Int} (h : cel q = true) : I64 q := by unfold cel at h; simpa [I64] using h
theorem cel_no {q : Int} (h : cel q = false) : ¬ I64 q := by unfold cel at h; simpa [I64] using h
theorem cel_of {q : Int} (h : I64 q) : cel q = true := by unfold cel; simpa [I64] using h
/-- What a division tells: nothing by 0, nothing beyond; its code. -/
def okR (z ok : Bool) (r : Int) : Int := if z then 0 else if ok then r else 0
def okE (z ok : Bool) : Int := if z then -10 else if ok then 0 else -11
theorem in_range (q : Int) (h0 : -170141183460469231731687303715884105728 ≤ q) (h1 : q ≤ 170141183460469231731687303715884105728) :
    (lo q == lo (lo q) && hi q == hi (lo q)) = cel q := by
  rw [fits_is (lo q) (hi q) (lo_i64 q) (hi_i64 q), cel]
  rw [decide_eq_decide]
  unfold V U lo hi wrap64
  omega
theorem of_held (w0 : World) (a : Int) (ha : I64 a) (w : World) (p q : Addr) (x y : Value) (h : (w.cell? p = some x ∧ w.cell? q = some y) ∧ Ext w0 w) :
    Calls Tryz.prog 100 #[.int .i64 a] w fun e w' => e = .returned (.agg #[.int .i64 (lo a), .int .i64 (hi a)]) ∧ ((w'.cell? p = some x ∧ w'.cell? q = some y) ∧ Ext w0 w') :=
  (of_calls w a ha w (Ext.refl w)).mono fun e w' ⟨he, hx⟩ => ⟨he, ⟨ext_keeps hx h.1.1, ext_keeps hx h.1.2⟩, h.2.trans hx⟩
set_option maxRecDepth 100000 in
theorem incells_calls (w0 : World) (r q : Int) (h0 : -170141183460469231731687303715884105728 ≤ q) (h1 : q ≤ 170141183460469231731687303715884105728) (w : World) (h : Ext w0 w) :
    Calls Tryz.prog 207 #[.int .i64 r, .agg #[.int .i64 (lo q), .int .i64 (hi q)]] w fun e w' => e = .returned (.tuple #[.int .i64 (okR false (cel q) r), .int .i64 (okR false (cel q) q), .int .i64 (okE false (cel q))]) ∧ Ext w0 w' := by
  have HE := in_range q h0 h1
  have hlq : cel q = true → lo q = q := fun hc => wrap_id (cel_yes hc)
  have hc := Lib.hid (fun W p q' x y hW => of_held w0 (lo q) (lo_i64 q) W p q' x y hW)
  clear h0 h1
  obtain ⟨a, ha⟩ : ∃ a, a = lo q := ⟨_, rfl⟩
  obtain ⟨b, hb⟩ : ∃ a, a = hi q := ⟨_, rfl⟩
  rw [← ha] at HE hc hlq ⊢
  rw [← hb] at HE ⊢
  clear ha hb
  obtain ⟨x, hx⟩ : ∃ x, x = lo a := ⟨_, rfl⟩
  obtain ⟨y, hy⟩ : ∃ x, x = hi a := ⟨_, rfl⟩
  rw [← hx, ← hy] at HE hc
  clear hx hy
  by_cases hcq : cel q = true
  · rw [hcq] at HE
    obtain rfl : a = q := hlq hcq
    rw [hcq]
    clear hlq hcq
    go_enter Tryz.func207, Tryz.ntmps207
    go_wp2_with fail
    have hX := h.cells #[Value.int .i64 a, Value.int .i64 b] 44
    go_region_held3 (fun W => (W.cell? ⟨w.heap.size, 0, none⟩ = some (.int .i64 a) ∧ W.cell? ⟨w.heap.size, 1, none⟩ = some (.int .i64 b)) ∧ Ext w0 W) (first | exact ⟨⟨by simp, by simp⟩, hX.drew⟩ | exact hx | assumption)
      (first | (go_at_call 100; refine (hc.out _ ⟨w.heap.size, 0, none⟩ ⟨w.heap.size, 1, none⟩ (.int .i64 a) (.int .i64 b) ?_).mono ?_; assumption; rintro e w' ⟨rfl, hx⟩))
    have k0 := hx.1.1
    have hE := hx.2
    go_wp2_with fail
    go_region
    go_wp2
    go_ret3
    exact ⟨rfl, hE.drew⟩
  · have hcf : cel q = false := by simpa using hcq
    rw [hcf] at HE
    rw [hcf]
    clear hlq hcq hcf
    go_enter Tryz.func207, Tryz.ntmps207
    go_wp2_with fail
    have hX := h.cells #[Value.int .i64 a, Value.int .i64 b] 44
    go_region_held3 (fun W => (W.cell? ⟨w.heap.size, 0, none⟩ = some (.int .i64 a) ∧ W.cell? ⟨w.heap.size, 1, none⟩ = some (.int .i64 b)) ∧ Ext w0 W) (first | exact ⟨⟨by simp, by simp⟩, hX.drew⟩ | exact hx | assumption)
      (first | (go_at_call 100; refine (hc.out _ ⟨w.heap.size, 0, none⟩ ⟨w.heap.size, 1, none⟩ (.int .i64 a) (.int .i64 b) ?_).mono ?_; assumption; rintro e w' ⟨rfl, hx⟩))
    have hE := hx.2
    go_wp2
    go_ret3
    exact ⟨rfl, hE⟩

theorem trunc_bd (v b : Int) (hv : -170141183460469231731687303715884105728 ≤ v ∧ v ≤ 170141183460469231731687303715884105727) : -170141183460469231731687303715884105728 ≤ v.tdiv b ∧ v.tdiv b ≤ 170141183460469231731687303715884105728 := by
  have h : (v.tdiv b).natAbs ≤ v.natAbs := by rw [Int.natAbs_tdiv]; exact Nat.div_le_self _ _
  omega
/-- The two contracts of the signed division that rounds towards 0: by 0, and else. -/
theorem trunc_calls (w0 : World) (a c b : Int) (ha : I64 a) (hc : I64 c) (hb : I64 b) (w : World) (h : Ext w0 w) :
    Calls Tryz.prog 119 #[.agg #[.int .i64 a, .int .i64 c], .int .i64 b] w fun e w' => e = .returned (.tuple #[.int .i64 (okR (b == 0) (cel ((V a c).tdiv b)) ((V a c).tmod b)), .int .i64 (okR (b == 0) (cel ((V a c).tdiv b)) ((V a c).tdiv b)), .int .i64 (okE (b == 0) (cel ((V a c).tdiv b)))]) ∧ Ext w0 w' := by
  by_cases hz : b = 0
  · subst hz
    generalize cel ((V a c).tdiv 0) = k
    generalize (V a c).tdiv 0 = q
    generalize (V a c).tmod 0 = r
    clear ha hc hb
    go_enter Tryz.func119, Tryz.ntmps119
    go_wp2
    go_ret3
    exact ⟨rfl, h.cells _ _⟩
  · have hbd := trunc_bd (V a c) b (V_bd hc)
    have hz2 : (b == 0) = false := by simpa using hz
    have htr := Lib.hid (fun w => truncate_calls w a c b ha hc hb hz w (Ext.refl w))
    rw [hz2]
    have hz3 : ¬ b = 0 := hz
    obtain ⟨q, hq⟩ : ∃ q, q = (V a c).tdiv b := ⟨_, rfl⟩
    obtain ⟨r, hr⟩ : ∃ q, q = (V a c).tmod b := ⟨_, rfl⟩
    rw [← hq] at hbd htr ⊢
    rw [← hr] at htr ⊢
    have hin := Lib.hid (fun w => incells_calls w r q hbd.1 hbd.2 w (Ext.refl w))
    obtain ⟨l, hl⟩ : ∃ q', q' = lo q := ⟨_, rfl⟩
    obtain ⟨m, hm⟩ : ∃ q', q' = hi q := ⟨_, rfl⟩
    obtain ⟨o1, ho1⟩ : ∃ q', q' = okR false (cel q) r := ⟨_, rfl⟩
    obtain ⟨o2, ho2⟩ : ∃ q', q' = okR false (cel q) q := ⟨_, rfl⟩
    obtain ⟨o3, ho3⟩ : ∃ q', q' = okE false (cel q) := ⟨_, rfl⟩
    rw [← hl, ← hm] at htr hin
    rw [← ho1, ← ho2, ← ho3] at hin ⊢
    clear hq hr hl hm ho1 ho2 ho3 hbd ha hc hb hz
    go_enter Tryz.func119, Tryz.ntmps119
    go_wp2_with fail
    refine (htr.out _).mono ?_
    rintro e w1 ⟨rfl, hx1⟩
    have hX := (h.cells _ _).trans hx1
    clear h hx1 htr
    go_wp2_with fail
    refine (hin.out _).mono ?_
    rintro e w2 ⟨rfl, hx2⟩
    have hX2 := hX.trans hx2
    clear hX hx2 hin
    go_wp2
    go_ret3
    exact ⟨rfl, hX2⟩
end Go.Proofs.YtegcecpmdgljpaaGreatDoor

namespace Go.Proofs.YtegcecpmdgljpaaGreatDoor
open Go.RowKit
set_option linter.unusedVariables false

/-- The quotient rounded down, and what is left then. -/
def FQ (v b : Int) : Int := if b < 0 then (-v) / (-b) else v / b
def FR (v b : Int) : Int := if b < 0 then -((-v) % (-b)) else v % b
theorem floor_one {v b q r : Int} (h : v = q * b + r) (hr : (0 ≤ r ∧ r < b) ∨ (b < r ∧ r ≤ 0)) : FQ v b = q ∧ FR v b = r := by
  unfold FQ FR
  rcases hr with ⟨h0, h1⟩ | ⟨h0, h1⟩
  · have hn : ¬ b < 0 := by omega
    rw [if_neg hn, if_neg hn]
    exact (Int.ediv_emod_unique (by omega)).2 ⟨by rw [Int.mul_comm]; omega, h0, h1⟩
  · have hn : b < 0 := by omega
    rw [if_pos hn, if_pos hn]
    have e := (Int.ediv_emod_unique (a := -v) (b := -b) (r := -r) (q := q) (by omega)).2 ⟨by rw [Int.neg_mul, Int.mul_comm]; omega, by omega, by omega⟩
    exact ⟨e.1, by omega⟩
theorem floor_same (v b : Int) (hb : b ≠ 0) (h : v.tmod b = 0 ∨ (v.tmod b < 0 ↔ b < 0)) : FQ v b = v.tdiv b ∧ FR v b = v.tmod b := by
  have e := Int.tdiv_mul_add_tmod v b
  have hl := tmod_bd v b hb
  refine floor_one e.symm ?_
  omega
theorem floor_less (v b : Int) (hb : b ≠ 0) (h0 : v.tmod b ≠ 0) (h : ¬ (v.tmod b < 0 ↔ b < 0)) : FQ v b = v.tdiv b + -1 ∧ FR v b = v.tmod b + b := by
  have e := Int.tdiv_mul_add_tmod v b
  have hl := tmod_bd v b hb
  refine floor_one (by rw [Int.add_mul]; omega) ?_
  omega
theorem floor_bd (v b : Int) (hv : -170141183460469231731687303715884105728 ≤ v ∧ v ≤ 170141183460469231731687303715884105727) (hb : b ≠ 0) (hb2 : I64 b) (h0 : v.tmod b ≠ 0) (h : ¬ (v.tmod b < 0 ↔ b < 0)) :
    (-170141183460469231731687303715884105728 ≤ v.tdiv b + -1 ∧ v.tdiv b + -1 ≤ 170141183460469231731687303715884105728) ∧ I64 (v.tmod b + b) := by
  have hl := tmod_bd v b hb
  have e := Int.tdiv_mul_add_tmod v b
  have hs := tmod_sign v b
  have h1 : (v.tdiv b).natAbs ≤ v.natAbs / 2 := by
    rw [Int.natAbs_tdiv]
    refine Nat.div_le_div_left ?_ (by omega)
    omega
  unfold I64 at *
  omega
theorem add_mk (n m : Int) (W : World) : Calls Tryz.prog 102 #[.agg #[.int .i64 (lo n), .int .i64 (hi n)], .agg #[.int .i64 (lo m), .int .i64 (hi m)]] W fun e w' => e = .returned (.agg #[.int .i64 (lo (n + m)), .int .i64 (hi (n + m))]) ∧ Ext W w' := by
  have h := add_calls W (lo n) (hi n) (lo m) (hi m) (lo_i64 n) (hi_i64 n) (lo_i64 m) (hi_i64 m) W (Ext.refl W)
  rw [(same_add2 n m).1, (same_add2 n m).2] at h
  exact h
theorem of_minus (W : World) : Calls Tryz.prog 100 #[.int .i64 (-1)] W fun e w' => e = .returned (.agg #[.int .i64 (lo (-1)), .int .i64 (hi (-1))]) ∧ Ext W w' :=
  of_calls W (-1) (by unfold I64; omega) W (Ext.refl W)

theorem udiv_range (Q : Nat) (h : Q < 340282366920938463463374607431768211456) : (hi (Q : Int) == 0) = decide (Q ≤ 18446744073709551615) := by
  rw [Bool.eq_iff_iff]
  simp only [beq_iff_eq, decide_eq_true_eq]
  unfold hi wrap64
  omega
theorem udiv_zero (w0 : World) (a c r q : Int) (k : Bool) (w : World) (h : Ext w0 w) :
    Calls Tryz.prog 117 #[.agg #[.int .i64 a, .int .i64 c], .int .i64 0] w fun e w' => e = .returned (.tuple #[.int .i64 (okR true k r), .int .i64 (okR true k q), .int .i64 (okE true k)]) ∧ Ext w0 w' := by
  go_enter Tryz.func117, Tryz.ntmps117
  go_wp2
  go_ret3
  exact ⟨rfl, h.cells _ _⟩
set_option maxRecDepth 100000 in
theorem udiv_near (w0 : World) (a c b x y : Int) (R B : Nat) (hz2 : (b == 0) = false) (hz3 : ¬ b = 0) (eb : IntKind.u64.wrap b = (B : Int)) (hr : (y == 0) = true)
    (hdv : RowKit.Hid (∀ w, Calls Tryz.prog 205 #[.agg #[.int .i64 a, .int .i64 c], .int .u64 (B : Int)] w fun e w' => e = .returned (.tuple #[.int .u64 (R : Int), .agg #[.int .i64 x, .int .i64 y]]) ∧ Ext w w')) (w : World) (h : Ext w0 w) :
    Calls Tryz.prog 117 #[.agg #[.int .i64 a, .int .i64 c], .int .i64 b] w fun e w' => e = .returned (.tuple #[.int .i64 (wrap64 (R : Int)), .int .i64 x, .int .i64 0]) ∧ Ext w0 w' := by
  go_enter Tryz.func117, Tryz.ntmps117
  go_wp2_with fail
  have hs0 := h.1.size
  refine (hdv.out _).mono ?_
  rintro e w1 ⟨rfl, hx1⟩
  have hX := (h.cells _ _).trans hx1
  have lt := hX.1.size
  clear h hx1 hdv
  go_wp2_with fail
  go_region
  go_wp2
  go_ret3
  exact ⟨rfl, (hX.cells _ _).drew⟩
set_option maxRecDepth 100000 in
theorem udiv_far (w0 : World) (a c b x y : Int) (R B : Nat) (hz2 : (b == 0) = false) (hz3 : ¬ b = 0) (eb : IntKind.u64.wrap b = (B : Int)) (hr : (y == 0) = false)
    (hdv : RowKit.Hid (∀ w, Calls Tryz.prog 205 #[.agg #[.int .i64 a, .int .i64 c], .int .u64 (B : Int)] w fun e w' => e = .returned (.tuple #[.int .u64 (R : Int), .agg #[.int .i64 x, .int .i64 y]]) ∧ Ext w w')) (w : World) (h : Ext w0 w) :
    Calls Tryz.prog 117 #[.agg #[.int .i64 a, .int .i64 c], .int .i64 b] w fun e w' => e = .returned (.tuple #[.int .i64 0, .int .i64 0, .int .i64 (-11)]) ∧ Ext w0 w' := by
  go_enter Tryz.func117, Tryz.ntmps117
  go_wp2_with fail
  have hs0 := h.1.size
  refine (hdv.out _).mono ?_
  rintro e w1 ⟨rfl, hx1⟩
  have hX := (h.cells _ _).trans hx1
  have lt := hX.1.size
  clear h hx1 hdv
  go_wp2_with fail
  go_ret3
  exact ⟨rfl, hX.cells _ _⟩
theorem okR_zero (k : Bool) (r : Int) : okR true k r = 0 := rfl
theorem okE_zero (k : Bool) : okE true k = -10 := rfl
theorem okR_near (r : Int) : okR false true r = r := rfl
theorem okE_near : okE false true = 0 := rfl
theorem okR_far (r : Int) : okR false false r = 0 := rfl
theorem okE_far : okE false false = -11 := rfl
theorem ediv_nat (P B : Nat) : (P : Int) / (B : Int) = ((P / B : Nat) : Int) := by rw [Int.natCast_ediv]
theorem emod_nat (P B : Nat) : (P : Int) % (B : Int) = ((P % B : Nat) : Int) := by rw [Int.natCast_emod]
theorem udiv_calls (w0 : World) (a c b : Int) (ha : I64 a) (hc : I64 c) (hb : I64 b) (w : World) (h : Ext w0 w) :
    Calls Tryz.prog 117 #[.agg #[.int .i64 a, .int .i64 c], .int .i64 b] w fun e w' => e = .returned (.tuple #[.int .i64 (okR (b == 0) (decide (W a c / U b ≤ 18446744073709551615)) (wrap64 (W a c % U b))), .int .i64 (okR (b == 0) (decide (W a c / U b ≤ 18446744073709551615)) (lo (W a c / U b))), .int .i64 (okE (b == 0) (decide (W a c / U b ≤ 18446744073709551615)))]) ∧ Ext w0 w' := by
  by_cases hz : b = 0
  · subst hz
    exact udiv_zero w0 a c _ _ _ w h
  · have hz2 : (b == 0) = false := by simpa using hz
    obtain ⟨w1, w2⟩ := W_bd a c
    obtain ⟨P, hP⟩ := Int.eq_ofNat_of_zero_le w1
    obtain ⟨u1, u2⟩ := U_bd b
    obtain ⟨B, hB⟩ := Int.eq_ofNat_of_zero_le u1
    have hB0 : 0 < B := by
      have : U b ≠ 0 := by unfold U; unfold I64 at hb; omega
      omega
    have eb : IntKind.u64.wrap b = (B : Int) := by rw [← hB]; exact u64_wrap b
    have hdv := Lib.hid (fun w => divide_calls w a c P B hP hB0 (by omega) w (Ext.refl w))
    have hlt : P / B < 340282366920938463463374607431768211456 := Nat.lt_of_le_of_lt (Nat.div_le_self _ _) (by omega)
    have hr := udiv_range (P / B) hlt
    rw [hP, hB, ediv_nat, emod_nat, hz2]
    have e3 : decide (((P / B : Nat) : Int) ≤ 18446744073709551615) = decide (P / B ≤ 18446744073709551615) := by rw [decide_eq_decide]; omega
    rw [e3]
    by_cases hq : P / B ≤ 18446744073709551615
    · have hd : decide (P / B ≤ 18446744073709551615) = true := decide_eq_true hq
      rw [hd] at hr ⊢
      rw [okR_near, okR_near, okE_near]
      exact udiv_near w0 a c b _ _ (P % B) B hz2 hz eb hr hdv w h
    · have hd : decide (P / B ≤ 18446744073709551615) = false := decide_eq_false hq
      rw [hd] at hr ⊢
      rw [okR_far, okR_far, okE_far]
      exact udiv_far w0 a c b _ _ (P % B) B hz2 hz eb hr hdv w h

set_option maxRecDepth 100000 in
theorem floor_z (w0 : World) (a c b q r : Int) (hz : b ≠ 0) (htr : ∀ w, Calls Tryz.prog 206 #[.agg #[.int .i64 a, .int .i64 c], .int .i64 b] w fun e w' => e = .returned (.tuple #[.int .i64 r, .agg #[.int .i64 (lo q), .int .i64 (hi q)]]) ∧ Ext w w') (h1 : r = 0)
    (hq0 : -170141183460469231731687303715884105728 ≤ q) (hq1 : q ≤ 170141183460469231731687303715884105728) (hrb : I64 (r)) (w : World) (h : Ext w0 w) :
    Calls Tryz.prog 118 #[.agg #[.int .i64 a, .int .i64 c], .int .i64 b] w fun e w' => e = .returned (.tuple #[.int .i64 (okR false (cel (q)) (r)), .int .i64 (okR false (cel (q)) (q)), .int .i64 (okE false (cel (q)))]) ∧ Ext w0 w' := by
  have HTR := Lib.hid htr
  clear htr
  have hz2 : (b == 0) = false := by simpa using hz
  have hz3 : ¬ b = 0 := hz
  subst h1
  have hin := Lib.hid (fun w => incells_calls w (0) (q) hq0 hq1 w (Ext.refl w))
  obtain ⟨q0, hq0'⟩ : ∃ n', n' = lo q := ⟨_, rfl⟩
  obtain ⟨q1, hq1'⟩ : ∃ n', n' = hi q := ⟨_, rfl⟩
  rw [← hq0', ← hq1'] at HTR hin
  obtain ⟨o1, ho1⟩ : ∃ q', q' = okR false (cel q) 0 := ⟨_, rfl⟩
  obtain ⟨o2, ho2⟩ : ∃ q', q' = okR false (cel q) q := ⟨_, rfl⟩
  obtain ⟨o3, ho3⟩ : ∃ q', q' = okE false (cel q) := ⟨_, rfl⟩
  rw [← ho1, ← ho2, ← ho3] at hin ⊢
  clear ho1 ho2 ho3 hq0' hq1' hq0 hq1 hrb hz
  go_enter Tryz.func118, Tryz.ntmps118
  go_wp2_with fail
  have hs0 := h.1.size
  refine (HTR.out _).mono ?_
  rintro e w1 ⟨rfl, hx1⟩
  have hX := (h.cells _ _).trans hx1
  have lt := hX.1.size
  clear h hx1 HTR
  go_wp2_with fail
  refine (hin.out _).mono ?_
  rintro e w2 ⟨rfl, hx2⟩
  have hX2 := (hX.cells #[.int .i64 q0, .int .i64 q1] 44).trans hx2
  go_wp2
  go_ret3
  exact ⟨rfl, hX2⟩
set_option maxRecDepth 100000 in
theorem floor_s (w0 : World) (a c b q r : Int) (hz : b ≠ 0) (htr : ∀ w, Calls Tryz.prog 206 #[.agg #[.int .i64 a, .int .i64 c], .int .i64 b] w fun e w' => e = .returned (.tuple #[.int .i64 r, .agg #[.int .i64 (lo q), .int .i64 (hi q)]]) ∧ Ext w w') (h1 : r < 0) (h2 : b < 0)
    (hq0 : -170141183460469231731687303715884105728 ≤ q) (hq1 : q ≤ 170141183460469231731687303715884105728) (hrb : I64 (r)) (w : World) (h : Ext w0 w) :
    Calls Tryz.prog 118 #[.agg #[.int .i64 a, .int .i64 c], .int .i64 b] w fun e w' => e = .returned (.tuple #[.int .i64 (okR false (cel (q)) (r)), .int .i64 (okR false (cel (q)) (q)), .int .i64 (okE false (cel (q)))]) ∧ Ext w0 w' := by
  have HTR := Lib.hid htr
  clear htr
  have hz2 : (b == 0) = false := by simpa using hz
  have hz3 : ¬ b = 0 := hz
  have r1 : (r != 0) = true := by simp; omega
  have r2 : decide (r < 0) = true := by simp; omega
  have r3 : decide (b < 0) = true := by simp; omega
  have r4 : ¬ r = 0 := by omega
  have hin := Lib.hid (fun w => incells_calls w (r) (q) hq0 hq1 w (Ext.refl w))
  obtain ⟨q0, hq0'⟩ : ∃ n', n' = lo q := ⟨_, rfl⟩
  obtain ⟨q1, hq1'⟩ : ∃ n', n' = hi q := ⟨_, rfl⟩
  rw [← hq0', ← hq1'] at HTR hin
  obtain ⟨o1, ho1⟩ : ∃ q', q' = okR false (cel q) r := ⟨_, rfl⟩
  obtain ⟨o2, ho2⟩ : ∃ q', q' = okR false (cel q) q := ⟨_, rfl⟩
  obtain ⟨o3, ho3⟩ : ∃ q', q' = okE false (cel q) := ⟨_, rfl⟩
  rw [← ho1, ← ho2, ← ho3] at hin ⊢
  clear ho1 ho2 ho3 hq0' hq1' hq0 hq1 hrb hz
  go_enter Tryz.func118, Tryz.ntmps118
  go_wp2_with fail
  have hs0 := h.1.size
  refine (HTR.out _).mono ?_
  rintro e w1 ⟨rfl, hx1⟩
  have hX := (h.cells _ _).trans hx1
  have lt := hX.1.size
  clear h hx1 HTR
  go_wp2_with fail
  refine (hin.out _).mono ?_
  rintro e w2 ⟨rfl, hx2⟩
  have hX2 := (hX.cells #[.int .i64 q0, .int .i64 q1] 44).trans hx2
  go_wp2
  go_ret3
  exact ⟨rfl, hX2⟩
set_option maxRecDepth 100000 in
theorem floor_p (w0 : World) (a c b q r : Int) (hz : b ≠ 0) (htr : ∀ w, Calls Tryz.prog 206 #[.agg #[.int .i64 a, .int .i64 c], .int .i64 b] w fun e w' => e = .returned (.tuple #[.int .i64 r, .agg #[.int .i64 (lo q), .int .i64 (hi q)]]) ∧ Ext w w') (h1 : 0 < r) (h2 : 0 < b)
    (hq0 : -170141183460469231731687303715884105728 ≤ q) (hq1 : q ≤ 170141183460469231731687303715884105728) (hrb : I64 (r)) (w : World) (h : Ext w0 w) :
    Calls Tryz.prog 118 #[.agg #[.int .i64 a, .int .i64 c], .int .i64 b] w fun e w' => e = .returned (.tuple #[.int .i64 (okR false (cel (q)) (r)), .int .i64 (okR false (cel (q)) (q)), .int .i64 (okE false (cel (q)))]) ∧ Ext w0 w' := by
  have HTR := Lib.hid htr
  clear htr
  have hz2 : (b == 0) = false := by simpa using hz
  have hz3 : ¬ b = 0 := hz
  have r1 : (r != 0) = true := by simp; omega
  have r2 : decide (r < 0) = false := by simp; omega
  have r3 : decide (b < 0) = false := by simp; omega
  have r4 : ¬ r = 0 := by omega
  have hin := Lib.hid (fun w => incells_calls w (r) (q) hq0 hq1 w (Ext.refl w))
  obtain ⟨q0, hq0'⟩ : ∃ n', n' = lo q := ⟨_, rfl⟩
  obtain ⟨q1, hq1'⟩ : ∃ n', n' = hi q := ⟨_, rfl⟩
  rw [← hq0', ← hq1'] at HTR hin
  obtain ⟨o1, ho1⟩ : ∃ q', q' = okR false (cel q) r := ⟨_, rfl⟩
  obtain ⟨o2, ho2⟩ : ∃ q', q' = okR false (cel q) q := ⟨_, rfl⟩
  obtain ⟨o3, ho3⟩ : ∃ q', q' = okE false (cel q) := ⟨_, rfl⟩
  rw [← ho1, ← ho2, ← ho3] at hin ⊢
  clear ho1 ho2 ho3 hq0' hq1' hq0 hq1 hrb hz
  go_enter Tryz.func118, Tryz.ntmps118
  go_wp2_with fail
  have hs0 := h.1.size
  refine (HTR.out _).mono ?_
  rintro e w1 ⟨rfl, hx1⟩
  have hX := (h.cells _ _).trans hx1
  have lt := hX.1.size
  clear h hx1 HTR
  go_wp2_with fail
  refine (hin.out _).mono ?_
  rintro e w2 ⟨rfl, hx2⟩
  have hX2 := (hX.cells #[.int .i64 q0, .int .i64 q1] 44).trans hx2
  go_wp2
  go_ret3
  exact ⟨rfl, hX2⟩
set_option maxRecDepth 100000 in
theorem floor_a (w0 : World) (a c b q r : Int) (hz : b ≠ 0) (htr : ∀ w, Calls Tryz.prog 206 #[.agg #[.int .i64 a, .int .i64 c], .int .i64 b] w fun e w' => e = .returned (.tuple #[.int .i64 r, .agg #[.int .i64 (lo q), .int .i64 (hi q)]]) ∧ Ext w w') (h1 : r < 0) (h2 : 0 < b)
    (hq0 : -170141183460469231731687303715884105728 ≤ q + -1) (hq1 : q + -1 ≤ 170141183460469231731687303715884105728) (hrb : I64 (r + b)) (w : World) (h : Ext w0 w) :
    Calls Tryz.prog 118 #[.agg #[.int .i64 a, .int .i64 c], .int .i64 b] w fun e w' => e = .returned (.tuple #[.int .i64 (okR false (cel (q + -1)) (r + b)), .int .i64 (okR false (cel (q + -1)) (q + -1)), .int .i64 (okE false (cel (q + -1)))]) ∧ Ext w0 w' := by
  have HTR := Lib.hid htr
  clear htr
  have hz2 : (b == 0) = false := by simpa using hz
  have hz3 : ¬ b = 0 := hz
  have r1 : (r != 0) = true := by simp; omega
  have r2 : decide (r < 0) = true := by simp; omega
  have r3 : decide (b < 0) = false := by simp; omega
  have r4 : ¬ r = 0 := by omega
  have hin := Lib.hid (fun w => incells_calls w (r + b) (q + -1) hq0 hq1 w (Ext.refl w))
  have er : wrap64 (r + b) = r + b := wrap_id hrb
  have had := Lib.hid (fun W => add_mk q (-1) W)
  have hof := Lib.hid of_minus
  obtain ⟨n, hn⟩ : ∃ n, n = q + -1 := ⟨_, rfl⟩
  rw [← hn] at had hin ⊢
  obtain ⟨t, ht⟩ : ∃ n, n = r + b := ⟨_, rfl⟩
  rw [← ht] at hin ⊢
  rw [← ht] at er
  rw [ht] at er
  obtain ⟨n0, hn0⟩ : ∃ n', n' = lo n := ⟨_, rfl⟩
  obtain ⟨n1, hn1⟩ : ∃ n', n' = hi n := ⟨_, rfl⟩
  rw [← hn0, ← hn1] at had hin
  have er2 : wrap64 (r + b) = t := by rw [er, ht]
  obtain ⟨m0, hm0⟩ : ∃ n', n' = lo (-1) := ⟨_, rfl⟩
  obtain ⟨m1, hm1⟩ : ∃ n', n' = hi (-1) := ⟨_, rfl⟩
  rw [← hm0, ← hm1] at had hof
  obtain ⟨q0, hq0'⟩ : ∃ n', n' = lo q := ⟨_, rfl⟩
  obtain ⟨q1, hq1'⟩ : ∃ n', n' = hi q := ⟨_, rfl⟩
  rw [← hq0', ← hq1'] at HTR had
  obtain ⟨o1, ho1⟩ : ∃ q', q' = okR false (cel n) t := ⟨_, rfl⟩
  obtain ⟨o2, ho2⟩ : ∃ q', q' = okR false (cel n) n := ⟨_, rfl⟩
  obtain ⟨o3, ho3⟩ : ∃ q', q' = okE false (cel n) := ⟨_, rfl⟩
  rw [← ho1, ← ho2, ← ho3] at hin ⊢
  clear ho1 ho2 ho3 hq0' hq1' hq0 hq1 hrb hz hn ht hn0 hn1 hm0 hm1 er
  go_enter Tryz.func118, Tryz.ntmps118
  go_wp2_with fail
  have hs0 := h.1.size
  refine (HTR.out _).mono ?_
  rintro e w1 ⟨rfl, hx1⟩
  have hX := (h.cells _ _).trans hx1
  have lt := hX.1.size
  clear h hx1 HTR
  go_upto_region 6 with fail
  have F0 := (Own.last (X := w1) (x := Value.int .i64 q0) (y := Value.int .i64 q1) (t := 44)).ext (Ext.drew (Ext.refl _))
  have hXd := (hX.cells #[.int .i64 q0, .int .i64 q1] 44).drew
  go_region_with (first | (go_at_call 100; refine (hof.out _).mono ?_; rintro e w2 ⟨rfl, hx0⟩; have F1 := F0.ext hx0; have hX1 := hXd.trans hx0; clear hx0; have kc0 := F1.c0; have kc1 := F1.c1) | (go_at_call 102; refine (had.out _).mono ?_; rintro e w3 ⟨rfl, hx0⟩; have F2 := F1.ext hx0; have hX2 := hX1.trans hx0; clear hx0; have mc0 := F2.c0; have mc1 := F2.c1; have mf0 := F2.f0; have mf1 := F2.f1; have mlt := F2.lt))
  all_goals
    replace F2 := F2.set (.int .i64 n0) (.int .i64 n1)
    replace hX2 := hX2.set2 (n := w1.heap.size) lt (.int .i64 n0) (.int .i64 n1)
    clear kc0 kc1 mc0 mc1 mf0 mf1
    have mc0 := F2.c0
    have mc1 := F2.c1
    go_wp2_with fail
    refine (hin.out _).mono ?_
    rintro e w4 ⟨rfl, hx4⟩
    have hX4 := hX2.trans hx4
    go_wp2
    go_ret3
    exact ⟨rfl, hX4⟩
set_option maxRecDepth 100000 in
theorem floor_b (w0 : World) (a c b q r : Int) (hz : b ≠ 0) (htr : ∀ w, Calls Tryz.prog 206 #[.agg #[.int .i64 a, .int .i64 c], .int .i64 b] w fun e w' => e = .returned (.tuple #[.int .i64 r, .agg #[.int .i64 (lo q), .int .i64 (hi q)]]) ∧ Ext w w') (h1 : 0 < r) (h2 : b < 0)
    (hq0 : -170141183460469231731687303715884105728 ≤ q + -1) (hq1 : q + -1 ≤ 170141183460469231731687303715884105728) (hrb : I64 (r + b)) (w : World) (h : Ext w0 w) :
    Calls Tryz.prog 118 #[.agg #[.int .i64 a, .int .i64 c], .int .i64 b] w fun e w' => e = .returned (.tuple #[.int .i64 (okR false (cel (q + -1)) (r + b)), .int .i64 (okR false (cel (q + -1)) (q + -1)), .int .i64 (okE false (cel (q + -1)))]) ∧ Ext w0 w' := by
  have HTR := Lib.hid htr
  clear htr
  have hz2 : (b == 0) = false := by simpa using hz
  have hz3 : ¬ b = 0 := hz
  have r1 : (r != 0) = true := by simp; omega
  have r2 : decide (r < 0) = false := by simp; omega
  have r3 : decide (b < 0) = true := by simp; omega
  have r4 : ¬ r = 0 := by omega
  have hin := Lib.hid (fun w => incells_calls w (r + b) (q + -1) hq0 hq1 w (Ext.refl w))
  have er : wrap64 (r + b) = r + b := wrap_id hrb
  have had := Lib.hid (fun W => add_mk q (-1) W)
  have hof := Lib.hid of_minus
  obtain ⟨n, hn⟩ : ∃ n, n = q + -1 := ⟨_, rfl⟩
  rw [← hn] at had hin ⊢
  obtain ⟨t, ht⟩ : ∃ n, n = r + b := ⟨_, rfl⟩
  rw [← ht] at hin ⊢
  rw [← ht] at er
  rw [ht] at er
  obtain ⟨n0, hn0⟩ : ∃ n', n' = lo n := ⟨_, rfl⟩
  obtain ⟨n1, hn1⟩ : ∃ n', n' = hi n := ⟨_, rfl⟩
  rw [← hn0, ← hn1] at had hin
  have er2 : wrap64 (r + b) = t := by rw [er, ht]
  obtain ⟨m0, hm0⟩ : ∃ n', n' = lo (-1) := ⟨_, rfl⟩
  obtain ⟨m1, hm1⟩ : ∃ n', n' = hi (-1) := ⟨_, rfl⟩
  rw [← hm0, ← hm1] at had hof
  obtain ⟨q0, hq0'⟩ : ∃ n', n' = lo q := ⟨_, rfl⟩
  obtain ⟨q1, hq1'⟩ : ∃ n', n' = hi q := ⟨_, rfl⟩
  rw [← hq0', ← hq1'] at HTR had
  obtain ⟨o1, ho1⟩ : ∃ q', q' = okR false (cel n) t := ⟨_, rfl⟩
  obtain ⟨o2, ho2⟩ : ∃ q', q' = okR false (cel n) n := ⟨_, rfl⟩
  obtain ⟨o3, ho3⟩ : ∃ q', q' = okE false (cel n) := ⟨_, rfl⟩
  rw [← ho1, ← ho2, ← ho3] at hin ⊢
  clear ho1 ho2 ho3 hq0' hq1' hq0 hq1 hrb hz hn ht hn0 hn1 hm0 hm1 er
  go_enter Tryz.func118, Tryz.ntmps118
  go_wp2_with fail
  have hs0 := h.1.size
  refine (HTR.out _).mono ?_
  rintro e w1 ⟨rfl, hx1⟩
  have hX := (h.cells _ _).trans hx1
  have lt := hX.1.size
  clear h hx1 HTR
  go_upto_region 6 with fail
  have F0 := (Own.last (X := w1) (x := Value.int .i64 q0) (y := Value.int .i64 q1) (t := 44)).ext (Ext.drew (Ext.refl _))
  have hXd := (hX.cells #[.int .i64 q0, .int .i64 q1] 44).drew
  go_region_with (first | (go_at_call 100; refine (hof.out _).mono ?_; rintro e w2 ⟨rfl, hx0⟩; have F1 := F0.ext hx0; have hX1 := hXd.trans hx0; clear hx0; have kc0 := F1.c0; have kc1 := F1.c1) | (go_at_call 102; refine (had.out _).mono ?_; rintro e w3 ⟨rfl, hx0⟩; have F2 := F1.ext hx0; have hX2 := hX1.trans hx0; clear hx0; have mc0 := F2.c0; have mc1 := F2.c1; have mf0 := F2.f0; have mf1 := F2.f1; have mlt := F2.lt))
  all_goals
    replace F2 := F2.set (.int .i64 n0) (.int .i64 n1)
    replace hX2 := hX2.set2 (n := w1.heap.size) lt (.int .i64 n0) (.int .i64 n1)
    clear kc0 kc1 mc0 mc1 mf0 mf1
    have mc0 := F2.c0
    have mc1 := F2.c1
    go_wp2_with fail
    refine (hin.out _).mono ?_
    rintro e w4 ⟨rfl, hx4⟩
    have hX4 := hX2.trans hx4
    go_wp2
    go_ret3
    exact ⟨rfl, hX4⟩
theorem floor_zero (w0 : World) (a c r q : Int) (k : Bool) (w : World) (h : Ext w0 w) :
    Calls Tryz.prog 118 #[.agg #[.int .i64 a, .int .i64 c], .int .i64 0] w fun e w' => e = .returned (.tuple #[.int .i64 (okR true k r), .int .i64 (okR true k q), .int .i64 (okE true k)]) ∧ Ext w0 w' := by
  go_enter Tryz.func118, Tryz.ntmps118
  go_wp2
  go_ret3
  exact ⟨rfl, h.cells _ _⟩
theorem floor_calls (w0 : World) (a c b : Int) (ha : I64 a) (hc : I64 c) (hb : I64 b) (w : World) (h : Ext w0 w) :
    Calls Tryz.prog 118 #[.agg #[.int .i64 a, .int .i64 c], .int .i64 b] w fun e w' => e = .returned (.tuple #[.int .i64 (okR (b == 0) (cel (FQ (V a c) b)) (FR (V a c) b)), .int .i64 (okR (b == 0) (cel (FQ (V a c) b)) (FQ (V a c) b)), .int .i64 (okE (b == 0) (cel (FQ (V a c) b)))]) ∧ Ext w0 w' := by
  by_cases hz : b = 0
  · subst hz
    exact floor_zero w0 a c _ _ _ w h
  · have hz2 : (b == 0) = false := by simpa using hz
    have htr := fun w => truncate_calls w a c b ha hc hb hz w (Ext.refl w)
    have hv := V_bd (l := a) hc
    obtain ⟨t0, t1⟩ := trunc_bd (V a c) b hv
    have hml := tmod_bd (V a c) b hz
    have hfl := floor_bd (V a c) b hv hz hb
    have hsm := floor_same (V a c) b hz
    have hle := floor_less (V a c) b hz
    rw [hz2]
    have hrI : I64 ((V a c).tmod b) := by unfold I64 at *; omega
    obtain ⟨q, hq⟩ : ∃ q, q = (V a c).tdiv b := ⟨_, rfl⟩
    obtain ⟨r, hr⟩ : ∃ q, q = (V a c).tmod b := ⟨_, rfl⟩
    rw [← hq] at htr t0 t1 hfl hsm hle
    rw [← hr] at htr hfl hsm hle hrI
    by_cases r0 : r = 0
    · rw [(hsm (.inl r0)).1, (hsm (.inl r0)).2]
      exact floor_z w0 a c b q r hz htr r0 t0 t1 hrI w h
    · by_cases rn : r < 0
      · by_cases bn : b < 0
        · rw [(hsm (.inr ⟨fun _ => bn, fun _ => rn⟩)).1, (hsm (.inr ⟨fun _ => bn, fun _ => rn⟩)).2]
          exact floor_s w0 a c b q r hz htr rn bn t0 t1 hrI w h
        · have hd : ¬ (r < 0 ↔ b < 0) := fun e => bn (e.1 rn)
          rw [(hle r0 hd).1, (hle r0 hd).2]
          exact floor_a w0 a c b q r hz htr rn (by omega) (hfl r0 hd).1.1 (hfl r0 hd).1.2 (hfl r0 hd).2 w h
      · by_cases bn : b < 0
        · have hd : ¬ (r < 0 ↔ b < 0) := fun e => rn (e.2 bn)
          rw [(hle r0 hd).1, (hle r0 hd).2]
          exact floor_b w0 a c b q r hz htr (by omega) bn (hfl r0 hd).1.1 (hfl r0 hd).1.2 (hfl r0 hd).2 w h
        · have hd : r < 0 ↔ b < 0 := ⟨fun e => absurd e rn, fun e => absurd e bn⟩
          rw [(hsm (.inr hd)).1, (hsm (.inr hd)).2]
          exact floor_p w0 a c b q r hz htr (by omega) (by omega) t0 t1 hrI w h
end Go.Proofs.YtegcecpmdgljpaaGreatDoor
