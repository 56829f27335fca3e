/- The document's answers for layer 2: what holds a pair beside a call; the loops. Condition: cells are integers of 64 bits. -/
import Derived.Test.YtnclfopdgilgaaaC2RefA
import Derived.Deep.RegionHeld3
namespace Go.Proofs.Ytnclfopdgilgaaa
open Go.RowKit
set_option linter.unusedVariables false

theorem rof_held (w0 : World) (a : Int) (ha : I64 a) (w : World) (p q : Addr) (x y : Value) (h : (w.cell? p = some x ∧ w.cell? q = some y) ∧ Ext w0 w) :
    Calls Try.prog 40 #[.int .i64 a] w fun e w' => e = .returned (.agg #[.int .i64 (lo a), .int .i64 (hi a)]) ∧ ((w'.cell? p = some x ∧ w'.cell? q = some y) ∧ Ext w0 w') :=
  (rof_calls w a ha w (Ext.refl w)).mono fun e w' ⟨he, hx⟩ => ⟨he, ⟨ext_keeps hx h.1.1, ext_keeps hx h.1.2⟩, h.2.trans hx⟩
theorem fits_is (a b : Int) (ha : I64 a) (hb : I64 b) : (a == lo a && b == hi a) = decide (V a b = a) := by
  rw [(of_is a ha).1, (of_is a ha).2]
  have e := V_of a ha
  unfold V U; unfold I64 at *
  rw [Bool.eq_iff_iff]
  by_cases h : a < 0 <;> simp [h] <;> omega
theorem lo_twice (n : Int) : lo (2 * V (lo n) (hi n)) = lo (2 * n) ∧ hi (2 * V (lo n) (hi n)) = hi (2 * n) := by
  obtain ⟨k, hk⟩ := V_mk n
  exact same (2 * k) (by rw [hk]; omega)
theorem V_low (b : Int) : V b 0 = U b := by unfold V; omega
theorem umul_step (X m : Nat) (Y : Int) : 2 * ((X / 2 ^ (m + 1) : Nat) * Y) = ((X / 2 ^ m / 2 : Nat) : Int) * 2 * Y := by
  rw [Nat.pow_succ, ← Nat.div_div_eq_div_mul, ← Int.mul_assoc, Int.mul_comm 2]
theorem shr_nat_is (X m : Nat) : (X : Int) / 2 ^ m = ((X / 2 ^ m : Nat) : Int) := by
  rw [Int.natCast_ediv, Int.natCast_pow]; rfl
theorem natOf_U (a : Int) : (natOf a : Int) = U a := by rw [← natOf_is, u64_wrap]; rfl
theorem rtwice_mk (n : Int) (W : World) : Calls Try.prog 73 #[.agg #[.int .i64 (lo n), .int .i64 (hi n)]] W fun e w' => e = .returned (.agg #[.int .i64 (lo (2 * n)), .int .i64 (hi (2 * n))]) ∧ Ext W w' := by
  have h := rtwice_calls W (lo n) (hi n) (lo_i64 n) (hi_i64 n) W (Ext.refl W)
  rw [(lo_twice n).1, (lo_twice n).2] at h
  exact h
theorem radd_mk (n : Int) (c d : Int) (hc : I64 c) (hd : I64 d) (W : World) : Calls Try.prog 68 #[.agg #[.int .i64 (lo n), .int .i64 (hi n)], .agg #[.int .i64 c, .int .i64 d]] W fun e w' => e = .returned (.agg #[.int .i64 (lo (n + V c d)), .int .i64 (hi (n + V c d))]) ∧ Ext W w' := by
  have h := radd_calls W (lo n) (hi n) c d (lo_i64 n) (hi_i64 n) hc hd W (Ext.refl W)
  rw [(same_add n _).1, (same_add n _).2] at h
  exact h
theorem radd_low (b : Int) (hb : I64 b) (n : Int) (W : World) : Calls Try.prog 68 #[.agg #[.int .i64 (lo n), .int .i64 (hi n)], .agg #[.int .i64 b, .int .i64 0]] W fun e w' => e = .returned (.agg #[.int .i64 (lo (n + U b)), .int .i64 (hi (n + U b))]) ∧ Ext W w' := by
  have h := radd_mk n b 0 hb (by unfold I64; omega) W
  rw [V_low] at h
  exact h
theorem hi_sub (n t : Int) : lo (n - 18446744073709551616 * t) = lo n ∧ hi (n - 18446744073709551616 * t) = wrap64 (hi n - t) := by
  unfold lo hi wrap64; omega
theorem hi_mod (n t : Int) : lo (n + 18446744073709551616 * (18446744073709551616 * t)) = lo n ∧ hi (n + 18446744073709551616 * (18446744073709551616 * t)) = hi n := by
  unfold lo hi wrap64; omega
theorem U_is (a : Int) (ha : I64 a) : U a = a + 18446744073709551616 * (if a < 0 then 1 else 0) := by
  unfold U; unfold I64 at ha; split <;> omega
theorem mul_parts (a b s t : Int) : a * b = (a + 18446744073709551616 * s) * (b + 18446744073709551616 * t) - 18446744073709551616 * (s * b + t * a) + 18446744073709551616 * (18446744073709551616 * (-(s * t))) := by
  rw [Int.add_mul, Int.mul_add, Int.mul_add]
  have e1 : a * (18446744073709551616 * t) = 18446744073709551616 * (t * a) := by rw [Int.mul_left_comm, Int.mul_comm a t]
  have e2 : 18446744073709551616 * s * b = 18446744073709551616 * (s * b) := by rw [Int.mul_assoc]
  have e3 : 18446744073709551616 * s * (18446744073709551616 * t) = 18446744073709551616 * (18446744073709551616 * (s * t)) := by rw [Int.mul_assoc, Int.mul_left_comm s]
  rw [e1, e2, e3]
  omega
theorem mul_is (a b : Int) (ha : I64 a) (hb : I64 b) : lo (a * b) = lo (U a * U b) ∧ hi (a * b) = if b < 0 then wrap64 ((if a < 0 then wrap64 (hi (U a * U b) - b) else hi (U a * U b)) - a) else (if a < 0 then wrap64 (hi (U a * U b) - b) else hi (U a * U b)) := by
  have e := mul_parts a b (if a < 0 then 1 else 0) (if b < 0 then 1 else 0)
  rw [← U_is a ha, ← U_is b hb] at e
  rw [e, (hi_mod _ _).1, (hi_mod _ _).2, (hi_sub _ _).1, (hi_sub _ _).2]
  refine ⟨rfl, ?_⟩
  have hI := hi_i64 (U a * U b)
  by_cases na : a < 0 <;> by_cases nb : b < 0 <;> simp only [na, nb, if_true, if_false, Int.one_mul, Int.zero_mul, Int.add_zero, Int.zero_add, Int.sub_zero]
  · rw [wrap_sub_l, Int.sub_sub]
  · exact wrap_id hI
end Go.Proofs.Ytnclfopdgilgaaa
