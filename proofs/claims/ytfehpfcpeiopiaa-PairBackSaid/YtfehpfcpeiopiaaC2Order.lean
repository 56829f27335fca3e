/- Layer 2: how two pairs may lie. Condition: cells are integers of 64 bits. -/
import Derived.Test.YtfehpfcpeiopiaaC2Laws
import Derived.Test.YtfehpfcpeiopiaaBit
namespace Go.Proofs.Ytfehpfcpeiopiaa
open Go.RowKit
set_option linter.unusedVariables false

theorem V_same (n : Int) (h : I64 n) : V (lo n) (hi n) = n := by unfold V U lo hi wrap64; unfold I64 at h; omega
theorem half_V (a b : Int) (hb : I64 b) : V (lo (V a b / 2)) (hi (V a b / 2)) = V a b / 2 := by
  have h := V_bd (l := a) hb
  generalize V a b = n at *
  unfold V U lo hi wrap64
  omega
theorem flip_less (a b c d : Int) (ha : I64 a) (hb : I64 b) (hc : I64 c) (hd : I64 d) : decide (V a (bits .xor .i64 b (-9223372036854775808)) < V c (bits .xor .i64 d (-9223372036854775808))) = decide (W a b < W c d) := by
  rw [xor_min b hb, xor_min d hd, decide_eq_decide]
  unfold V W U
  unfold I64 at *
  split <;> split <;> omega
theorem flip_i64 (b : Int) (hb : I64 b) : I64 (bits .xor .i64 b (-9223372036854775808)) := by
  rw [xor_min b hb]
  unfold I64 at *
  split <;> omega
theorem low_less (x y : Int) : decide (W x 0 < W y 0) = decide (U x < U y) := by
  rw [decide_eq_decide]
  unfold W U
  omega
/-- The five ways in which two pairs may lie. -/
theorem order_ways (a b c d : Int) (ha : I64 a) (hb : I64 b) (hc : I64 c) (hd : I64 d) :
    (decide (V a b < V c d) = false ∧ decide (V c d < V a b) = false ∧ decide (W a b < W c d) = false ∧ decide (W c d < W a b) = false ∧ (a == c && b == d) = true)
    ∨ (decide (V a b < V c d) = true ∧ decide (V c d < V a b) = false ∧ decide (W a b < W c d) = true ∧ decide (W c d < W a b) = false ∧ (a == c && b == d) = false ∧ decide (V c d / 2 < V a b / 2) = false)
    ∨ (decide (V a b < V c d) = true ∧ decide (V c d < V a b) = false ∧ decide (W a b < W c d) = false ∧ decide (W c d < W a b) = true ∧ (a == c && b == d) = false ∧ decide (V c d / 2 < V a b / 2) = false)
    ∨ (decide (V a b < V c d) = false ∧ decide (V c d < V a b) = true ∧ decide (W a b < W c d) = true ∧ decide (W c d < W a b) = false ∧ (a == c && b == d) = false)
    ∨ (decide (V a b < V c d) = false ∧ decide (V c d < V a b) = true ∧ decide (W a b < W c d) = false ∧ decide (W c d < W a b) = true ∧ (a == c && b == d) = false) := by
  have hp := pair_eq ha hc hb hd
  have hw : W a b = W c d ↔ a = c ∧ b = d := by unfold W U; unfold I64 at *; omega
  have hq : (a == c && b == d) = decide (a = c ∧ b = d) := by
    rw [Bool.eq_iff_iff]; simp
  rw [hq]
  simp only [decide_eq_true_eq, decide_eq_false_iff_not]
  clear hq
  generalize V a b = A at *
  generalize V c d = C at *
  generalize W a b = A' at *
  generalize W c d = C' at *
  omega
end Go.Proofs.Ytfehpfcpeiopiaa
