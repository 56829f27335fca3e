/- Layer 13: what operations give are cells. Condition: they are given cells. -/
import Derived.Test.YtegcecpmdgljpaaGreatDoorUX
namespace Go.Proofs.YtegcecpmdgljpaaGreatDoor
open Go.RowKit Ieee
set_option linter.unusedVariables false

theorem wrap64_toInt (x : BitVec 64) : I64 x.toInt := by
  have h1 := BitVec.toInt_lt (x := x)
  have h2 := BitVec.le_toInt (x := x)
  unfold I64; omega
theorem bits_i64 (o : BinOp) (ho : o = .and ∨ o = .or ∨ o = .xor) (a b : Int) : I64 (bits o .i64 a b) := by
  rcases ho with rfl | rfl | rfl
  · rw [and_bv]; exact wrap64_toInt _
  · rw [or_bv]; exact wrap64_toInt _
  · rw [xor_bv]; exact wrap64_toInt _
theorem andnot_i64 (a b : Int) : I64 (bits .andNot .i64 a b) := by
  have : bits .andNot .i64 a b = (BitVec.ofInt 64 a &&& ~~~ BitVec.ofInt 64 b).toInt := by rw [← wrap_toInt]; exact IntWalk.i64_left _
  rw [this]; exact wrap64_toInt _
theorem truth_i64 (b : Bool) : I64 (truth b) := by cases b <;> (unfold truth I64; simp)
theorem truthI_i64 (b : Bool) : I64 (truthI b) := by cases b <;> (unfold truthI I64; simp)
theorem tdiv_i64 {a b : Int} (ha : I64 a) : I64 (a.tmod b) := by
  unfold I64 at *
  have h1 := Int.natAbs_tmod a b
  have h2 : (a.natAbs % b.natAbs) ≤ a.natAbs := Nat.mod_le _ _
  by_cases hs : 0 ≤ a
  · have := Int.tmod_nonneg (a := a) b hs
    omega
  · have h3 : (a.tmod b).natAbs ≤ a.natAbs := by omega
    have h4 : a.tmod b ≤ 0 := by
      have := Int.tmod_nonneg (a := -a) b (by omega)
      rw [Int.neg_tmod] at this
      omega
    omega
theorem upper_i64 {a b : Int} (ha : I64 a) (hb : I64 b) : I64 (upper a b) := by unfold upper; split <;> assumption
theorem lower_i64 {a b : Int} (ha : I64 a) (hb : I64 b) : I64 (lower a b) := by unfold lower; split <;> assumption
theorem quo_i64 (a b : Int) : I64 (quo a b) := by unfold quo; split <;> exact i64_wrap _
theorem rem_i64 {a b : Int} (ha : I64 a) : I64 (rem a b) := by
  unfold rem
  split
  · exact i64_wrap _
  · exact tdiv_i64 ha
theorem zero_i64 : I64 0 := by unfold I64; omega
theorem ite_i64 {c : Prop} [Decidable c] {a b : Int} (ha : I64 a) (hb : I64 b) : I64 (if c then a else b) := by split <;> assumption
theorem twoV_i64 (op a b : Int) (ha : I64 a) (hb : I64 b) : I64 (twoV op a b) := by
  unfold twoV
  repeat' with_reducible apply ite_i64
  all_goals first
    | exact zero_i64 | exact i64_wrap _ | exact quo_i64 _ _ | exact rem_i64 ha | exact bits_i64 _ (by simp) _ _ | exact truth_i64 _ | exact lower_i64 ha hb | exact upper_i64 ha hb
theorem oneV_i64 (op a : Int) (ha : I64 a) : I64 (oneV op a) := by
  unfold oneV
  repeat' split
  all_goals first
    | exact zero_i64 | exact i64_wrap _ | exact truth_i64 _ | exact upper_i64 ha (i64_wrap _) | (unfold I64 at *; omega)
theorem cellOf_in (x : Nat) : I64 (cellOf x) := by
  unfold cellOf
  split
  · unfold I64; omega
  · exact i64_wrap _
theorem resOf_i64 (x : Option Nat) : I64 (resOf x) := by
  cases x with
  | none => show I64 9221120237041090560; unfold I64; omega
  | some r => exact cellOf_in r
theorem realV_i64 (n x y : Int) : I64 (realV n x y) := by
  unfold realV
  repeat' split
  all_goals first | exact resOf_i64 _ | exact truthI_i64 _
theorem real1V_i64 (n x : Int) : I64 (real1V n x) := by unfold real1V; split <;> exact cellOf_in _
theorem okR_i64 {z ok : Bool} {r : Int} (h : ok = true → I64 r) : I64 (okR z ok r) := by
  unfold okR
  split
  · exact zero_i64
  · split
    · exact h ‹_›
    · exact zero_i64
theorem okE_ne (z ok : Bool) : okE z ok ≠ 1 := by unfold okE; split <;> (try split) <;> decide
theorem FR_i64 {v z : Int} (hz : I64 z) (h0 : z ≠ 0) : I64 (FR v z) := by
  unfold FR I64 at *
  split
  · have h1 := Int.emod_nonneg (-v) (b := -z) (by omega)
    have h2 := Int.emod_lt_of_pos (-v) (b := -z) (by omega)
    omega
  · have h1 := Int.emod_nonneg v (b := z) h0
    have h2 := Int.emod_lt_of_pos v (b := z) (by omega)
    omega
theorem tmod_i64 {v z : Int} (hz : I64 z) (h0 : z ≠ 0) : I64 (v.tmod z) := by
  unfold I64 at *
  have h1 := Int.natAbs_tmod v z
  have h2 : v.natAbs % z.natAbs < z.natAbs := Nat.mod_lt _ (by omega)
  omega
theorem okR_zi {z : Int} {ok : Bool} {r : Int} (h : z ≠ 0 → ok = true → I64 r) : I64 (okR (z == 0) ok r) := by
  by_cases h0 : z = 0
  · subst h0; exact zero_i64
  · exact okR_i64 (h h0)
end Go.Proofs.YtegcecpmdgljpaaGreatDoor
