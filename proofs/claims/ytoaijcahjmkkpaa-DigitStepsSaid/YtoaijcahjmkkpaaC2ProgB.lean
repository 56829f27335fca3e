/- Layer 2 (package pair): halves, products, and the division without signs. Condition: cells are integers of 64 bits. -/
import Derived.Test.YtoaijcahjmkkpaaDiv64
namespace Go.Proofs.Ytoaijcahjmkkpaa
open Go.RowKit
set_option linter.unusedVariables false

theorem or_i64_nat (x y : Nat) (hx : x < 18446744073709551616) (hy : y < 18446744073709551616) : bits .or .i64 (wrap64 (x : Int)) (wrap64 (y : Int)) = wrap64 ((x ||| y : Nat) : Int) := by
  have e : bits .or .i64 (wrap64 (x : Int)) (wrap64 (y : Int)) = (BitVec.ofInt 64 (wrap64 (x : Int)) ||| BitVec.ofInt 64 (wrap64 (y : Int))).toInt := by
    rw [← wrap_toInt]; exact IntWalk.i64_left _
  rw [e, ofInt_wrap, ofInt_wrap, ← wrap_toInt, BitVec.toNat_or, BitVec.ofInt_natCast, BitVec.ofInt_natCast, BitVec.toNat_ofNat, BitVec.toNat_ofNat, Nat.mod_eq_of_lt (by omega), Nat.mod_eq_of_lt (by omega)]
theorem half_or (a b : Int) (ha : I64 a) (hb : I64 b) : bits .or .i64 (wrap64 (b * 9223372036854775808)) (wrap64 (U a / 2)) = lo (V a b / 2) := by
  obtain ⟨h1, h2⟩ := U_bd a
  obtain ⟨y, hy⟩ := Int.eq_ofNat_of_zero_le (show 0 ≤ U a / 2 by omega)
  have hy2 : y < 2 ^ 63 := by omega
  rw [(half_is a b ha hb).1, hy]
  rcases (show b % 2 = 0 ∨ b % 2 = 1 by omega) with hz | hz
  · have e : wrap64 (b * 9223372036854775808) = wrap64 ((0 : Nat) : Int) := by unfold wrap64; omega
    rw [e, or_i64_nat 0 y (by omega) (by omega), Nat.zero_or, hz]
    simp
  · have e : wrap64 (b * 9223372036854775808) = wrap64 ((9223372036854775808 : Nat) : Int) := by unfold wrap64; omega
    have e2 : 9223372036854775808 ||| y = 9223372036854775808 + y := by
      have := Nat.two_pow_add_eq_or_of_lt hy2 1
      simpa using this.symm
    rw [e, or_i64_nat 9223372036854775808 y (by omega) (by omega), e2, hz]
    congr 1
    omega
theorem umul_lo (X Y : Nat) : wrap64 ((X * Y % 18446744073709551616 : Nat) : Int) = lo ((X : Int) * (Y : Int)) ∧ wrap64 ((X * Y / 18446744073709551616 : Nat) : Int) = hi ((X : Int) * (Y : Int)) := by
  rw [← Int.natCast_mul]
  unfold lo hi wrap64
  omega
theorem umul_calls (w0 : World) (a b : Int) (ha : I64 a) (hb : I64 b) (w : World) (h : Ext w0 w) : Calls Try.prog 45 #[.int .i64 a, .int .i64 b] w fun e w' => e = .returned (.agg #[.int .i64 (lo (U a * U b)), .int .i64 (hi (U a * U b))]) ∧ Ext w0 w' := by
  obtain ⟨a1, a2⟩ := U_bd a
  obtain ⟨b1, b2⟩ := U_bd b
  obtain ⟨X, hX⟩ := Int.eq_ofNat_of_zero_le a1
  obtain ⟨Y, hY⟩ := Int.eq_ofNat_of_zero_le b1
  have ea : IntKind.u64.wrap a = (X : Int) := by rw [← hX]; exact u64_wrap a
  have eb : IntKind.u64.wrap b = (Y : Int) := by rw [← hY]; exact u64_wrap b
  have hm := Lib.hid (fun w => Try.bits_Mul64 X Y (by omega) (by omega) w)
  rw [hX, hY, ← (umul_lo X Y).1, ← (umul_lo X Y).2]
  clear a1 a2 b1 b2 hX hY ha hb
  obtain ⟨p, hp⟩ : ∃ p, p = X * Y / 18446744073709551616 := ⟨_, rfl⟩
  obtain ⟨q, hq⟩ : ∃ p, p = X * Y % 18446744073709551616 := ⟨_, rfl⟩
  rw [← hp, ← hq] at hm ⊢
  clear hp hq
  go_enter Try.func45, Try.ntmps45
  go_wp2_with fail
  refine (hm.out _).mono ?_
  rintro e w' ⟨rfl, rfl⟩
  go_wp2_with fail
  refine (frombits_calls _ _ _ _ (Ext.refl _)).mono ?_
  rintro e w' ⟨rfl, hx⟩
  have hX := (h.cells _ _).trans hx
  obtain ⟨c0, c1, f0, f1, hs⟩ := ext_last2 hx
  have hs0 := h.1.size
  clear hx hm
  go_wp2
  exact bodyPost_ret (v := .agg #[.int .i64 (wrap64 (q : Int)), .int .i64 (wrap64 (p : Int))]) (by simp [results, Try.results45, go_sem, c0, c1]) rfl ⟨rfl, (hX.setCell hs0 _).setCell hs0 _⟩

end Go.Proofs.Ytoaijcahjmkkpaa
