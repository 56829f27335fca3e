/- Plain arithmetic on pairs of cells as integers modulo 2 to the 128. No Go text is spoken of. -/
import Derived.Test.YtnclfopdgilgaaaNum
namespace Go.Proofs.Ytnclfopdgilgaaa
open Go.RowKit
set_option linter.unusedVariables false

/-- The low and the high cell of an integer (modulo 2 to the 128). -/
def lo (n : Int) : Int := wrap64 n
def hi (n : Int) : Int := wrap64 (n / 18446744073709551616)
/-- A cell without its sign; a pair's number with its sign, and without. -/
def U (a : Int) : Int := a % 18446744073709551616
def V (l h : Int) : Int := h * 18446744073709551616 + U l
def W (l h : Int) : Int := U h * 18446744073709551616 + U l

theorem lo_i64 (n : Int) : I64 (lo n) := i64_wrap _
theorem hi_i64 (n : Int) : I64 (hi n) := i64_wrap _
theorem lo_off (n k : Int) : lo (n + 340282366920938463463374607431768211456 * k) = lo n := by unfold lo wrap64; omega
theorem hi_off (n k : Int) : hi (n + 340282366920938463463374607431768211456 * k) = hi n := by unfold hi wrap64; omega
theorem lo_V {l h : Int} (hl : I64 l) : lo (V l h) = l := by unfold lo V U wrap64; unfold I64 at hl; omega
theorem hi_V {l h : Int} (hh : I64 h) : hi (V l h) = h := by unfold hi V U wrap64; unfold I64 at hh; omega
theorem V_mk (n : Int) : ∃ k, V (lo n) (hi n) = n + 340282366920938463463374607431768211456 * k := by
  refine ⟨(V (lo n) (hi n) - n) / 340282366920938463463374607431768211456, ?_⟩
  unfold V U lo hi wrap64
  omega
theorem W_V (l h : Int) : ∃ k, W l h = V l h + 340282366920938463463374607431768211456 * k := by
  refine ⟨-(h / 18446744073709551616), ?_⟩
  unfold V W U
  omega
theorem V_bd {l h : Int} (hh : I64 h) : -170141183460469231731687303715884105728 ≤ V l h ∧ V l h ≤ 170141183460469231731687303715884105727 := by
  unfold V U; unfold I64 at hh; omega
theorem W_bd (l h : Int) : 0 ≤ W l h ∧ W l h ≤ 340282366920938463463374607431768211455 := by unfold W U; omega
theorem U_bd (a : Int) : 0 ≤ U a ∧ U a ≤ 18446744073709551615 := by unfold U; omega
/-- Two numbers that are the same modulo 2 to the 128 are one pair. -/
theorem same {n m : Int} (k : Int) (h : n = m + 340282366920938463463374607431768211456 * k) : lo n = lo m ∧ hi n = hi m := by
  rw [h]; exact ⟨lo_off m k, hi_off m k⟩
theorem same_add (n m : Int) : lo (V (lo n) (hi n) + m) = lo (n + m) ∧ hi (V (lo n) (hi n) + m) = hi (n + m) := by
  obtain ⟨k, hk⟩ := V_mk n
  exact same k (by rw [hk]; omega)
theorem pair_eq {l h l' h' : Int} (hl : I64 l) (hl' : I64 l') (hh : I64 h) (hh' : I64 h') : V l h = V l' h' ↔ l = l' ∧ h = h' := by
  unfold V U; unfold I64 at *; omega

/-! ### sums, halves -/
theorem of_is (a : Int) (ha : I64 a) : lo a = a ∧ hi a = if a < 0 then -1 else 0 := by
  unfold lo hi wrap64; unfold I64 at ha; split <;> omega
theorem V_of (a : Int) (ha : I64 a) : V a (if a < 0 then -1 else 0) = a := by unfold V U; unfold I64 at ha; split <;> omega
theorem add_is (a b c d : Int) (ha : I64 a) (hb : I64 b) (hc : I64 c) (hd : I64 d) :
    lo (V a b + V c d) = wrap64 (a + c) ∧ hi (V a b + V c d) = if U (wrap64 (a + c)) < U a then wrap64 (wrap64 (b + d) + 1) else wrap64 (b + d) := by
  unfold lo hi V U wrap64; unfold I64 at *
  refine ⟨by omega, ?_⟩
  split <;> omega
theorem not_is (a b : Int) (ha : I64 a) (hb : I64 b) : V (wrap64 (-1 - a)) (wrap64 (-1 - b)) = -1 - V a b := by
  unfold V U wrap64; unfold I64 at *; omega
theorem half_is (a b : Int) (ha : I64 a) (hb : I64 b) : lo (V a b / 2) = wrap64 (U a / 2 + 9223372036854775808 * (b % 2)) ∧ hi (V a b / 2) = b / 2 := by
  unfold lo hi V U wrap64; unfold I64 at *; omega
theorem V_neg (a b : Int) (ha : I64 a) (hb : I64 b) : V a b < 0 ↔ b < 0 := by unfold V U; unfold I64 at *; omega
theorem V_less (a b c d : Int) (ha : I64 a) (hb : I64 b) (hc : I64 c) (hd : I64 d) : V a b < V c d ↔ (b < d ∨ (b = d ∧ U a < U c)) := by
  unfold V U; unfold I64 at *; omega
theorem W_less (a b c d : Int) : W a b < W c d ↔ (U b < U d ∨ (U b = U d ∧ U a < U c)) := by
  unfold W U; omega
theorem U_inj {a b : Int} (ha : I64 a) (hb : I64 b) : U a = U b ↔ a = b := by unfold U; unfold I64 at *; omega
end Go.Proofs.Ytnclfopdgilgaaa
