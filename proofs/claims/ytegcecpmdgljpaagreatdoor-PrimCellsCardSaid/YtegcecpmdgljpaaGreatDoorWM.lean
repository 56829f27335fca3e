/- The document's answers for layer 1 (package rhytonref01), at a seat of layer 13. Condition: the cells are integers of 64 bits. -/
import Derived.Test.YtegcecpmdgljpaaGreatDoorC1Two
namespace Go.Proofs.YtegcecpmdgljpaaGreatDoor.L1

open Go.RowKit
set_option linter.unusedVariables false

def I64 (a : Int) : Prop := -9223372036854775808 ≤ a ∧ a ≤ 9223372036854775807
theorem i64_of_wf {a : Int} (h : (Lit.int .i64 a).wf = true) : I64 a := by
  simpa [I64, Lit.wf, IntKind.min, IntKind.max, IntKind.signed, IntKind.bits] using h
theorem i64_wrap (a : Int) : I64 (wrap64 a) := by unfold I64 wrap64; omega
theorem wrap_id {a : Int} (h : I64 a) : wrap64 a = a := IntWalk.wrap64_in a h
theorem wrap_wrap (a : Int) : wrap64 (wrap64 a) = wrap64 a := wrap_id (i64_wrap a)
theorem wrap_is (a : Int) : ∃ k, wrap64 a = a + 18446744073709551616 * k := ⟨-((a + 9223372036854775808) / 18446744073709551616), by unfold wrap64; omega⟩
theorem wrap_off (a k : Int) : wrap64 (a + 18446744073709551616 * k) = wrap64 a := by unfold wrap64; omega
theorem wrap_add_l (a b : Int) : wrap64 (wrap64 a + b) = wrap64 (a + b) := by
  obtain ⟨k, hk⟩ := wrap_is a
  rw [hk, show a + 18446744073709551616 * k + b = (a + b) + 18446744073709551616 * k from by omega, wrap_off]
theorem wrap_add_r (a b : Int) : wrap64 (a + wrap64 b) = wrap64 (a + b) := by rw [Int.add_comm, wrap_add_l, Int.add_comm]
theorem wrap_sub_l (a b : Int) : wrap64 (wrap64 a - b) = wrap64 (a - b) := by
  obtain ⟨k, hk⟩ := wrap_is a
  rw [hk, show a + 18446744073709551616 * k - b = (a - b) + 18446744073709551616 * k from by omega, wrap_off]
theorem wrap_sub_r (a b : Int) : wrap64 (a - wrap64 b) = wrap64 (a - b) := by
  obtain ⟨k, hk⟩ := wrap_is b
  rw [hk, show a - (b + 18446744073709551616 * k) = (a - b) + 18446744073709551616 * (-k) from by omega, wrap_off]
theorem wrap_neg (b : Int) : wrap64 (-wrap64 b) = wrap64 (-b) := by
  have := wrap_sub_r 0 b
  simpa using this
theorem wrap_mul_l (a b : Int) : wrap64 (wrap64 a * b) = wrap64 (a * b) := by
  obtain ⟨k, hk⟩ := wrap_is a
  rw [hk, show (a + 18446744073709551616 * k) * b = a * b + 18446744073709551616 * (k * b) from by rw [Int.add_mul, Int.mul_assoc], wrap_off]
theorem wrap_mul_r (a b : Int) : wrap64 (a * wrap64 b) = wrap64 (a * b) := by rw [Int.mul_comm, wrap_mul_l, Int.mul_comm]

theorem v11 (a b : Int) : twoV 11 a b = wrap64 (a + b) := by simp [twoV]
theorem v12 (a b : Int) : twoV 12 a b = wrap64 (a - b) := by simp [twoV]
theorem v13 (a b : Int) : twoV 13 a b = wrap64 (a * b) := by simp [twoV]
theorem v14 (a b : Int) (h : b ≠ 0) : twoV 14 a b = quo a b := by simp [twoV, h]
theorem v15 (a b : Int) (h : b ≠ 0) : twoV 15 a b = rem a b := by simp [twoV, h]
theorem v14z (a : Int) : twoV 14 a 0 = 0 := by simp [twoV]
theorem v15z (a : Int) : twoV 15 a 0 = 0 := by simp [twoV]
theorem v16 (a b : Int) : twoV 16 a b = bits .and .i64 a b := by simp [twoV]
theorem v17 (a b : Int) : twoV 17 a b = bits .or .i64 a b := by simp [twoV]
theorem v18 (a b : Int) : twoV 18 a b = bits .xor .i64 a b := by simp [twoV]
theorem v19 (a b : Int) : twoV 19 a b = shl a b := by simp [twoV]
theorem v20 (a b : Int) : twoV 20 a b = shr a b := by simp [twoV]
theorem v21 (a b : Int) : twoV 21 a b = truth (a == b) := by simp [twoV]
theorem v22 (a b : Int) : twoV 22 a b = truth (a != b) := by simp [twoV]
theorem v23 (a b : Int) : twoV 23 a b = truth (decide (a < b)) := by simp [twoV]
theorem v24 (a b : Int) : twoV 24 a b = truth (decide (b < a)) := by simp [twoV]
theorem v25 (a b : Int) : twoV 25 a b = truth (decide (IntKind.u64.wrap a < IntKind.u64.wrap b)) := by simp [twoV]
theorem v26 (a b : Int) : twoV 26 a b = lower a b := by simp [twoV]
theorem v27 (a b : Int) : twoV 27 a b = upper a b := by simp [twoV]
theorem o1 (a : Int) : oneV 1 a = wrap64 (-a) := by simp [oneV]
theorem o2 (a : Int) : oneV 2 a = upper a (wrap64 (-a)) := by simp [oneV]
theorem o3 (a : Int) : oneV 3 a = wrap64 (-1 - a) := by simp [oneV]
theorem o4 (a : Int) : oneV 4 a = wrap64 (a + 1) := by simp [oneV]
theorem o5 (a : Int) : oneV 5 a = wrap64 (a - 1) := by simp [oneV]
theorem o6 (a : Int) : oneV 6 a = wrap64 (2 * a) := by simp [oneV]
theorem o9 (a : Int) : oneV 9 a = truth (decide (a < 0)) := by simp [oneV]
theorem tdiv_bd (a b : Int) (ha : I64 a) (hb : b ≠ 0) (h1 : b ≠ -1) : I64 (a.tdiv b) := by
  unfold I64 at *
  have h2 := Int.tdiv_mul_add_tmod a b
  by_cases hp : 0 < b
  · have h3 : (a.tdiv b).natAbs ≤ a.natAbs := by rw [Int.natAbs_tdiv]; exact Nat.div_le_self _ _
    by_cases h4 : b = 1
    · subst h4; simp; omega
    · have h5 : (a.tdiv b).natAbs ≤ a.natAbs / 2 := by
        rw [Int.natAbs_tdiv]
        exact Nat.div_le_div_left (by omega) (by omega)
      omega
  · have h5 : (a.tdiv b).natAbs ≤ a.natAbs / 2 := by
      rw [Int.natAbs_tdiv]
      exact Nat.div_le_div_left (by omega) (by omega)
    omega

theorem tmod_bd (a b : Int) (hb : b ≠ 0) : (a.tmod b).natAbs < b.natAbs := by
  rw [Int.natAbs_tmod]; exact Nat.mod_lt _ (by omega)
theorem tmod_sign (a b : Int) : (0 ≤ a → 0 ≤ a.tmod b) ∧ (a ≤ 0 → a.tmod b ≤ 0) := by
  refine ⟨fun h => Int.tmod_nonneg _ h, fun h => ?_⟩
  have h1 := Int.tmod_nonneg b (a := -a) (by omega)
  rw [Int.neg_tmod] at h1
  omega
theorem tmod_le (a b : Int) : (a.tmod b).natAbs ≤ a.natAbs := by rw [Int.natAbs_tmod]; exact Nat.mod_le _ _

/-- The quotient and the remainder of the code, for cells, over what the machine's division gives. -/
theorem quo_is (a b : Int) (ha : I64 a) (hb : b ≠ 0) : quo a b = wrap64 (if a.tmod b ≠ 0 ∧ ¬ (a < 0 ↔ b < 0) then a.tdiv b - 1 else a.tdiv b) := by
  have h2 := Int.tdiv_mul_add_tmod a b
  have hm := tmod_le a b
  have hs := tmod_sign a b
  have e1 : wrap64 (wrap64 (a.tdiv b) * b) = a - a.tmod b := by
    rw [wrap_mul_l, show a.tdiv b * b = a - a.tmod b from by omega]
    refine wrap_id ?_
    unfold I64 at *
    by_cases h0 : 0 ≤ a
    · have := hs.1 h0; omega
    · have := hs.2 (by omega); omega
  unfold quo
  rw [e1, wrap_sub_l]
  have e2 : (a - a.tmod b != a && (decide (a < 0) != decide (b < 0))) = decide (a.tmod b ≠ 0 ∧ ¬ (a < 0 ↔ b < 0)) := by
    rw [Bool.eq_iff_iff]
    by_cases h3 : a < 0 <;> by_cases h4 : b < 0 <;> simp [h3, h4] <;> omega
  rw [e2]
  by_cases hc : a.tmod b ≠ 0 ∧ ¬ (a < 0 ↔ b < 0) <;> simp [hc]

theorem wrap_bmod (n : Int) : wrap64 n = n.bmod (2 ^ 64) := by
  unfold wrap64
  rw [Int.bmod_def]
  simp only [Nat.reducePow]
  split <;> omega
theorem wrap_toInt (x : BitVec 64) : wrap64 (x.toNat : Int) = x.toInt := by rw [wrap_bmod, BitVec.toInt_eq_toNat_bmod]
theorem ofInt_wrap (n : Int) : BitVec.ofInt 64 (wrap64 n) = BitVec.ofInt 64 n := by
  apply BitVec.eq_of_toInt_eq
  rw [BitVec.toInt_ofInt, BitVec.toInt_ofInt, ← wrap_bmod, ← wrap_bmod, wrap_wrap]
theorem toInt_ofInt64 {a : Int} (h : I64 a) : (BitVec.ofInt 64 a).toInt = a := by rw [BitVec.toInt_ofInt, ← wrap_bmod, wrap_id h]
theorem exists_bv {a : Int} (h : I64 a) : ∃ x : BitVec 64, a = x.toInt := ⟨BitVec.ofInt 64 a, (toInt_ofInt64 h).symm⟩
theorem bv_i64 (x : BitVec 64) : I64 x.toInt := by rw [← wrap_toInt]; exact i64_wrap _

theorem and_bv (a b : Int) : bits .and .i64 a b = (BitVec.ofInt 64 a &&& BitVec.ofInt 64 b).toInt := by
  rw [← wrap_toInt]; exact IntWalk.i64_left _
theorem or_bv (a b : Int) : bits .or .i64 a b = (BitVec.ofInt 64 a ||| BitVec.ofInt 64 b).toInt := by
  rw [← wrap_toInt]; exact IntWalk.i64_left _
theorem xor_bv (a b : Int) : bits .xor .i64 a b = (BitVec.ofInt 64 a ^^^ BitVec.ofInt 64 b).toInt := by
  rw [← wrap_toInt]; exact IntWalk.i64_left _
theorem and_v (x y : BitVec 64) : bits .and .i64 x.toInt y.toInt = (x &&& y).toInt := by rw [and_bv, BitVec.ofInt_toInt, BitVec.ofInt_toInt]
theorem or_v (x y : BitVec 64) : bits .or .i64 x.toInt y.toInt = (x ||| y).toInt := by rw [or_bv, BitVec.ofInt_toInt, BitVec.ofInt_toInt]
theorem xor_v (x y : BitVec 64) : bits .xor .i64 x.toInt y.toInt = (x ^^^ y).toInt := by rw [xor_bv, BitVec.ofInt_toInt, BitVec.ofInt_toInt]
theorem add_v (x y : BitVec 64) : wrap64 (x.toInt + y.toInt) = (x + y).toInt := by rw [BitVec.toInt_add, wrap_bmod]
theorem sub_v (x y : BitVec 64) : wrap64 (x.toInt - y.toInt) = (x - y).toInt := by rw [BitVec.toInt_sub, wrap_bmod]

theorem bv_join (x y : BitVec 64) : (x &&& y) + (x ||| y) = x + y := by
  have h1 : x ||| y = (x &&& ~~~y) + y := by
    rw [BitVec.add_eq_or_of_and_eq_zero]
    · apply BitVec.eq_of_getLsbD_eq
      intro i hi
      simp only [BitVec.getLsbD_or, BitVec.getLsbD_and, BitVec.getLsbD_not, hi]
      cases x.getLsbD i <;> cases y.getLsbD i <;> rfl
    · apply BitVec.eq_of_getLsbD_eq
      intro i hi
      simp only [BitVec.getLsbD_and, BitVec.getLsbD_not, hi, BitVec.getLsbD_zero]
      cases x.getLsbD i <;> cases y.getLsbD i <;> rfl
  have h2 : x = (x &&& y) + (x &&& ~~~y) := by
    rw [BitVec.add_eq_or_of_and_eq_zero]
    · apply BitVec.eq_of_getLsbD_eq
      intro i hi
      simp only [BitVec.getLsbD_or, BitVec.getLsbD_and, BitVec.getLsbD_not, hi]
      cases x.getLsbD i <;> cases y.getLsbD i <;> rfl
    · apply BitVec.eq_of_getLsbD_eq
      intro i hi
      simp only [BitVec.getLsbD_and, BitVec.getLsbD_not, hi, BitVec.getLsbD_zero]
      cases x.getLsbD i <;> cases y.getLsbD i <;> rfl
  rw [h1, ← BitVec.add_assoc, ← h2]
theorem bv_xor (x y : BitVec 64) : x ^^^ y = (x ||| y) - (x &&& y) := by
  rw [BitVec.eq_sub_iff_add_eq, BitVec.add_eq_or_of_and_eq_zero]
  · apply BitVec.eq_of_getLsbD_eq
    intro i hi
    simp only [BitVec.getLsbD_or, BitVec.getLsbD_and, BitVec.getLsbD_xor]
    cases x.getLsbD i <;> cases y.getLsbD i <;> rfl
  · apply BitVec.eq_of_getLsbD_eq
    intro i hi
    simp only [BitVec.getLsbD_and, BitVec.getLsbD_xor, BitVec.getLsbD_zero]
    cases x.getLsbD i <;> cases y.getLsbD i <;> rfl

/-- The least cell. -/
theorem min_bv : BitVec.ofInt 64 (-9223372036854775808) = BitVec.intMin 64 := by decide
theorem xor_min (a : Int) (ha : I64 a) : bits .xor .i64 a (-9223372036854775808) = if a < 0 then a + 9223372036854775808 else a - 9223372036854775808 := by
  obtain ⟨x, rfl⟩ := exists_bv ha
  rw [xor_bv, BitVec.ofInt_toInt, min_bv]
  have e : x ^^^ BitVec.intMin 64 = x + BitVec.intMin 64 := by
    have h := bv_join x (BitVec.intMin 64)
    rw [bv_xor, BitVec.sub_eq_iff_eq_add, ← h]
    have hz : ∀ y : BitVec 64, (y &&& BitVec.intMin 64) + (y &&& BitVec.intMin 64) = 0#64 := by
      intro y
      have h2 : y &&& BitVec.intMin 64 = 0#64 ∨ y &&& BitVec.intMin 64 = BitVec.intMin 64 := by
        cases hm : y.getLsbD 63
        · left
          apply BitVec.eq_of_getLsbD_eq
          intro i hi
          rw [BitVec.getLsbD_and, BitVec.getLsbD_intMin, BitVec.getLsbD_zero]
          by_cases hi2 : i = 63
          · subst hi2; rw [hm]; rfl
          · simp [hi2]
        · right
          apply BitVec.eq_of_getLsbD_eq
          intro i hi
          rw [BitVec.getLsbD_and, BitVec.getLsbD_intMin]
          by_cases hi2 : i = 63
          · subst hi2; rw [hm]; rfl
          · simp [hi2]
      rcases h2 with h2 | h2 <;> rw [h2] <;> decide
    rw [BitVec.add_assoc, BitVec.add_comm (x ||| _), ← BitVec.add_assoc, hz, BitVec.zero_add]
  rw [e, ← add_v]
  have hmin : (BitVec.intMin 64).toInt = -9223372036854775808 := by decide
  rw [hmin]
  have := bv_i64 x
  unfold I64 at this
  unfold wrap64
  split <;> omega
theorem u64_wrap (a : Int) : IntKind.u64.wrap a = a % 18446744073709551616 := by simp [IntKind.wrap, IntKind.bits, IntKind.signed]
theorem truth_congr {p q : Bool} (h : p = q) : truth p = truth q := by rw [h]

open Go.RowKit
set_option linter.unusedVariables false

theorem wrap_top (a : Int) (n : Nat) (h : 64 ≤ n) : wrap64 (a * 2 ^ n) = 0 := by
  obtain ⟨m, rfl⟩ : ∃ m, n = m + 64 := ⟨n - 64, by omega⟩
  rw [Int.pow_add, ← Int.mul_assoc, show ((2 : Int) ^ 64) = 18446744073709551616 from by decide, Int.mul_comm _ 18446744073709551616, show 18446744073709551616 * (a * 2 ^ m) = 0 + 18446744073709551616 * (a * 2 ^ m) from by omega, wrap_off]
  decide +kernel
theorem u64_of_wrap (t : Int) (h0 : 0 ≤ t) (h1 : t < 18446744073709551616) : IntKind.u64.wrap (wrap64 t) = t := by
  rw [u64_wrap]; unfold wrap64; omega
theorem part_bd (A : Int) (n : Nat) (h0 : 0 ≤ A) (h1 : A < 18446744073709551616) : 0 ≤ A / 2 ^ n ∧ A / 2 ^ n < 18446744073709551616 := by
  have hp : (0 : Int) < 2 ^ n := Int.pow_pos (by decide)
  exact ⟨Int.ediv_nonneg h0 (by omega), Int.lt_of_le_of_lt (Int.ediv_le_self _ h0) h1⟩
theorem part_top (A : Int) (n : Nat) (hn : 64 ≤ n) (h0 : 0 ≤ A) (h1 : A < 18446744073709551616) : A / 2 ^ n = 0 := by
  refine Int.ediv_eq_zero_of_lt h0 (Int.lt_of_lt_of_le h1 ?_)
  have : (2 : Int) ^ 64 ≤ 2 ^ n := by
    obtain ⟨m, rfl⟩ : ∃ m, n = 64 + m := ⟨n - 64, by omega⟩
    have hp : (0 : Int) < 2 ^ m := Int.pow_pos (by decide)
    rw [Int.pow_add]
    calc (2 : Int) ^ 64 = 2 ^ 64 * 1 := by rw [Int.mul_one]
      _ ≤ 2 ^ 64 * 2 ^ m := Int.mul_le_mul_of_nonneg_left (by omega) (by decide)
  exact this
theorem rtruth_calls (b : Bool) (w : World) : Calls Tryz.prog 51 #[.bool b] w fun e w' => e = .returned (.int .i64 (truth b)) ∧ w = w' := by
  cases b <;> (go_enter Tryz.func51, Tryz.ntmps51; go_wp2; go_ret; exact ⟨rfl, rfl⟩)

theorem rmany_calls (op : Int) (w : World) : Calls Tryz.prog 33 #[.int .i64 op] w fun e w' => e = .returned (.int .i64 (if 1 ≤ op ∧ op ≤ 10 then 1 else if 11 ≤ op ∧ op ≤ 27 then 2 else 0)) ∧ w = w' := by
  by_cases h1 : 1 ≤ op ∧ op ≤ 10
  · rw [if_pos h1]
    obtain ⟨h1, h2⟩ := h1
    go_enter Tryz.func33, Tryz.ntmps33
    go_wp2
    go_ret
    exact ⟨rfl, rfl⟩
  · rw [if_neg h1]
    by_cases h2 : 11 ≤ op ∧ op ≤ 27
    · rw [if_pos h2]
      obtain ⟨h2, h3⟩ := h2
      clear h1
      go_enter Tryz.func33, Tryz.ntmps33
      go_wp2
      go_ret
      exact ⟨rfl, rfl⟩
    · rw [if_neg h2]
      have h3 : op < 1 ∨ 27 < op := by omega
      clear h1 h2
      rcases h3 with h3 | h3
      all_goals
        go_enter Tryz.func33, Tryz.ntmps33
        go_wp2
        go_ret
        exact ⟨rfl, rfl⟩

theorem ret_i64 {a b : Int} (h : a = b) : Ending.returned (.int .i64 a) = .returned (.int .i64 b) := by rw [h]
theorem ret_two {a b c d : Int} (h : a = b) (k : c = d) : Ending.returned (.tuple #[.int .i64 a, .int .i64 c]) = .returned (.tuple #[.int .i64 b, .int .i64 d]) := by rw [h, k]

set_option maxRecDepth 100000 in
theorem half_calls (a : Int) (ha : I64 a) (w : World) : Calls Tryz.prog 50 #[.int .i64 a] w fun e w' => e = .returned (.int .i64 (a / 2)) ∧ w = w' := by
  have h2 := Int.tdiv_mul_add_tmod a 2
  have hs := tmod_sign a 2
  have hm := tmod_bd a 2 (by decide)
  have h3 := ha
  unfold I64 at h3
  obtain ⟨h3, h4⟩ := h3
  by_cases h0 : 0 ≤ a
  · clear hs h2 hm
    go_enter Tryz.func50, Tryz.ntmps50
    go_wp2
    go_ret
    exact ⟨rfl, rfl⟩
  · have h5 := hs.2 (by omega)
    have h6 : a < 0 := by omega
    have H2 := Lib.hid h2
    clear hs h2 h0 ha
    by_cases hz : a.tmod 2 = 0
    · have hz' : (a.tmod 2 != 0) = false := by simp [hz]
      have Hz := Lib.hid hz
      clear hz
      go_enter Tryz.func50, Tryz.ntmps50
      go_wp2
      go_ret
      refine ⟨ret_i64 ?_, rfl⟩
      have := H2.out
      have := Hz.out
      first | omega | (rw [wrap_id (by unfold I64; omega)]; omega)
    · have hz' : (a.tmod 2 != 0) = true := by simpa using hz
      have Hz := Lib.hid hz
      clear hz
      go_enter Tryz.func50, Tryz.ntmps50
      go_wp2
      go_ret
      refine ⟨ret_i64 ?_, rfl⟩
      have := H2.out
      have := Hz.out
      first | omega | (rw [wrap_id (by unfold I64; omega)]; omega)

theorem left_is (a b : Int) (ha : I64 a) : wrap64 (a - wrap64 (wrap64 (a.tdiv b) * b)) = a.tmod b := by
  have h2 := Int.tdiv_mul_add_tmod a b
  have hm := tmod_le a b
  rw [wrap_mul_l, wrap_sub_r, show a - a.tdiv b * b = a.tmod b from by omega]
  refine wrap_id ?_
  have hs := tmod_sign a b
  unfold I64 at *
  by_cases h0 : 0 ≤ a
  · have := hs.1 h0; omega
  · have := hs.2 (by omega); omega
theorem quo_too (a b : Int) (ha : I64 a) (hb : b ≠ 0) : quo a b = if (a.tmod b != 0 && (decide (a.tmod b < 0) != decide (b < 0))) = true then wrap64 (wrap64 (a.tdiv b) - 1) else wrap64 (a.tdiv b) := by
  have hs := tmod_sign a b
  rw [quo_is a b ha hb, wrap_sub_l]
  have e2 : (a.tmod b != 0 && (decide (a.tmod b < 0) != decide (b < 0))) = decide (a.tmod b ≠ 0 ∧ ¬ (a < 0 ↔ b < 0)) := by
    rw [Bool.eq_iff_iff]
    by_cases h5 : a.tmod b = 0
    · simp [h5]
    · have h6 : a.tmod b < 0 ↔ a < 0 := by
        by_cases h0 : 0 ≤ a
        · have := hs.1 h0; omega
        · have := hs.2 (by omega); omega
      by_cases h3 : a < 0 <;> by_cases h4 : b < 0 <;> simp [h3, h4, h5, h6]
  rw [e2]
  by_cases hc : a.tmod b ≠ 0 ∧ ¬ (a < 0 ↔ b < 0)
  · rw [if_pos hc, if_pos (decide_eq_true hc)]
  · rw [if_neg hc, if_neg (by simpa using hc)]

set_option maxRecDepth 100000 in
theorem divided_calls (a b : Int) (ha : I64 a) (hbb : I64 b) (hb : b ≠ 0) (w : World) : Calls Tryz.prog 52 #[.int .i64 a, .int .i64 b] w fun e w' => e = .returned (.tuple #[.int .i64 (quo a b), .int .i64 (rem a b)]) ∧ w = w' := by
  have hb' : (b == 0) = false := by simpa using hb
  have hq := quo_too a b ha hb
  have hl := left_is a b ha
  by_cases h1 : b = -1
  · subst h1
    have e1 : quo a (-1) = wrap64 (-a) := by rw [quo_is a (-1) ha hb]; simp
    have e2 : rem a (-1) = 0 := by unfold rem; simp
    rw [e1, e2]
    clear ha hbb hl hq e1 e2 hb
    go_enter Tryz.func52, Tryz.ntmps52
    go_wp2
    go_ret2
    exact ⟨ret_two (by first | rfl | rw [Int.zero_sub]) rfl, rfl⟩
  · have h1' : (b == -1) = false := by simpa using h1
    have HQ := Lib.hid hq
    have HL := Lib.hid hl
    clear ha hbb hq hl h1
    go_enter Tryz.func52, Tryz.ntmps52
    go_wp2
    all_goals
      have hq := HQ.out
      have hl := HL.out
      clear HQ HL
      go_ret2
      refine ⟨ret_two ?_ ?_, rfl⟩
      · simp_all
      · simp_all [rem]

theorem uless_is (a b : Int) (ha : I64 a) (hb : I64 b) : twoV 25 a b = if (decide (a < 0) != decide (b < 0)) = true then truth (decide (b < 0)) else truth (decide (a < b)) := by
  rw [v25, u64_wrap, u64_wrap]
  unfold I64 at ha hb
  by_cases h3 : a < 0 <;> by_cases h4 : b < 0 <;> simp [h3, h4] <;> refine truth_congr ?_ <;> simp <;> omega

set_option maxRecDepth 100000 in
theorem compares_calls (op a b : Int) (ha : I64 a) (hb : I64 b) (w : World) (h1 : 21 ≤ op) (h2 : op ≤ 27) : Calls Tryz.prog 55 #[.int .i64 op, .int .i64 a, .int .i64 b] w fun e w' => e = .returned (.int .i64 (twoV op a b)) ∧ w = w' := by
  have hu := Lib.hid (uless_is a b ha hb)
  have h' : op = 21 ∨ op = 22 ∨ op = 23 ∨ op = 24 ∨ op = 25 ∨ op = 26 ∨ op = 27 := by omega
  clear h1 h2 ha hb
  rcases h' with rfl | rfl | rfl | rfl | rfl | rfl | rfl
  all_goals
    go_enter Tryz.func55, Tryz.ntmps55
    go_wp2_with (go_at_call 51; refine (rtruth_calls _ _).mono ?_; rintro e w' ⟨rfl, rfl⟩)
    all_goals
      go_ret
      refine ⟨ret_i64 ?_, rfl⟩
      have hv := hu.out
      clear hu
      first | exact (v21 _ _).symm | exact (v22 _ _).symm | exact (v23 _ _).symm | exact (v24 _ _).symm | (rw [hv]; simp_all; done) | (rw [v26]; clear hv; unfold lower; split <;> (try simp at *) <;> omega) | (rw [v27]; clear hv; unfold upper; split <;> (try simp at *) <;> omega)

theorem abs_neg (a : Int) (ha : I64 a) (h : a < 0) : wrap64 (-a) = upper a (wrap64 (-a)) := by
  unfold I64 at ha; unfold upper wrap64; split <;> omega
theorem abs_pos (a : Int) (ha : I64 a) (h : 0 ≤ a) : a = upper a (wrap64 (-a)) := by
  unfold I64 at ha; unfold upper wrap64; split <;> omega
set_option maxRecDepth 100000 in
theorem one_two_calls (op a : Int) (ha : I64 a) (w : World) : Calls Tryz.prog 32 #[.int .i64 op, .int .i64 a] w fun e w' => e = .returned (.tuple #[.int .i64 (oneV op a), .int .i64 (oneE op)]) ∧ w = w' := by
  have HA := Lib.hid ha
  have hhalf := fun w => half_calls a ha w
  have HH := Lib.hid hhalf
  clear ha hhalf
  go_enter Tryz.func32, Tryz.ntmps32
  go_wp2_with (first | (go_at_call 51; refine (rtruth_calls _ _).mono ?_; rintro e w' ⟨rfl, rfl⟩) | (go_at_call 50; refine (HH.out _).mono ?_; rintro e w' ⟨rfl, rfl⟩))
  all_goals
    have ha := HA.out
    clear HA HH
    go_ret2
    refine ⟨ret_two ?_ ?_, rfl⟩
    · first | (simp_all [oneV]; done) | (simp_all only [beq_iff_eq, o2]; exact abs_neg a ha (by omega)) | (simp_all only [beq_iff_eq, o2]; exact abs_pos a ha (by omega)) | (simp_all only [beq_iff_eq, o6, Int.two_mul])
    · first | (simp_all [oneE]; done) | (simp_all [oneE]; omega)

/-! ### the loops of the document's answers: over natural numbers -/
def twice64 (p : Nat) : Nat := p * 2 % 18446744073709551616
theorem twice64_wrap (p : Nat) : IntKind.u64.wrap ((p : Int) * 2) = (twice64 p : Int) := by rw [u64_wrap]; unfold twice64; omega
theorem up_step (X k : Nat) : twice64 (X * 2 ^ k % 18446744073709551616) = X * 2 ^ (k + 1) % 18446744073709551616 := by
  unfold twice64
  rw [Nat.pow_succ, ← Nat.mul_assoc]
  omega
theorem next64 (k : Nat) (h : k < 64) : IntKind.u64.wrap ((k : Int) + 1) = (k : Int) + 1 := by rw [u64_wrap]; omega
def natOf (a : Int) : Nat := (IntKind.u64.wrap a).toNat
theorem natOf_is (a : Int) : IntKind.u64.wrap a = (natOf a : Int) := by unfold natOf; rw [u64_wrap]; omega
theorem natOf_lt (a : Int) : natOf a < 18446744073709551616 := by unfold natOf; rw [u64_wrap]; omega

theorem shl_nat (a b : Int) (ha : I64 a) : wrap64 ((natOf a * 2 ^ min (natOf b) 64 % 18446744073709551616 : Nat) : Int) = shl a b := by
  unfold shl
  have e : (natOf a : Int) = a % 18446744073709551616 := by rw [← natOf_is, u64_wrap]
  have e2 : (IntKind.u64.wrap b).toNat = natOf b := rfl
  rw [e2]
  generalize min (natOf b) 64 = n
  rw [Int.natCast_emod, Int.natCast_mul, Int.natCast_pow, e]
  obtain ⟨q, hq⟩ : ∃ q, a % 18446744073709551616 = a + 18446744073709551616 * q := ⟨-(a / 18446744073709551616), by omega⟩
  rw [hq, Int.add_mul, Int.mul_assoc]
  generalize a * ((2 : Nat) : Int) ^ n = u
  generalize q * ((2 : Nat) : Int) ^ n = v
  unfold wrap64
  omega
theorem shr_nat (a b : Int) (ha : I64 a) : wrap64 ((natOf a / 2 ^ min (natOf b) 64 : Nat) : Int) = shr a b := by
  unfold shr
  have e2 : (IntKind.u64.wrap b).toNat = natOf b := rfl
  rw [e2, natOf_is a]
  rfl

theorem half64 (p : Nat) (h : p < 18446744073709551616) : IntKind.u64.wrap ((p : Int) / 2) = ((p / 2 : Nat) : Int) := by rw [u64_wrap]; omega
theorem part_lt (X k : Nat) (h : X < 18446744073709551616) : X / 2 ^ k < 18446744073709551616 := Nat.lt_of_le_of_lt (Nat.div_le_self _ _) h
theorem down_step (X k : Nat) : (X / 2 ^ k) / 2 = X / 2 ^ (k + 1) := by rw [Nat.pow_succ, Nat.div_div_eq_div_mul]
set_option maxRecDepth 100000 in
theorem moved_up_calls (a b : Int) (ha : I64 a) (w : World) : Calls Tryz.prog 54 #[.int .i64 a, .int .i64 b, .bool true] w fun e w' => e = .returned (.int .i64 (shl a b)) ∧ w = w' := by
  have HS := Lib.hid (shl_nat a b ha)
  have HX := Lib.hid (natOf_lt a)
  clear ha
  have ea := natOf_is a
  have eb := natOf_is b
  generalize natOf a = X at *
  generalize natOf b = N at *
  go_enter Tryz.func54, Tryz.ntmps54
  go_wp2
  clear ea eb
  go_loop [7, 9] (fun x i => ∃ k : Nat, k ≤ 64 ∧ k ≤ N ∧ i = .int .u64 k ∧ x = .int .u64 ((X * 2 ^ k % 18446744073709551616 : Nat) : Int)) (fun _ i => 64 - (intOf i).toNat)
  case atStart =>
    have hX := HX.out
    exact ⟨0, by omega, by omega, rfl, by simp; omega⟩
  case round =>
    obtain ⟨k, hk, hn, rfl, rfl⟩ := hrel
    have hu := Lib.hid (up_step X k)
    obtain ⟨p, hp⟩ : ∃ p, p = X * 2 ^ k % 18446744073709551616 := ⟨_, rfl⟩
    rw [← hp]
    have Hp := Lib.hid hp
    clear hp
    by_cases h1 : k < N
    · by_cases h2 : k < 64
      · have e2 := next64 k h2
        have e1 := twice64_wrap p
        go_wp2
        go_round
        case rel => exact ⟨k + 1, by omega, by omega, by go_num, by rw [← hu.out, ← Hp.out]⟩
        case measure => simp [intOf]; omega
      · go_wp2
        go_ret
        refine ⟨ret_i64 ?_, rfl⟩
        rw [Hp.out, ← HS.out, show min N 64 = k from by omega]
    · go_wp2
      go_ret
      refine ⟨ret_i64 ?_, rfl⟩
      rw [Hp.out, ← HS.out, show min N 64 = k from by omega]
set_option maxRecDepth 100000 in
theorem moved_down_calls (a b : Int) (ha : I64 a) (w : World) : Calls Tryz.prog 54 #[.int .i64 a, .int .i64 b, .bool false] w fun e w' => e = .returned (.int .i64 (shr a b)) ∧ w = w' := by
  have HS := Lib.hid (shr_nat a b ha)
  have HX := Lib.hid (natOf_lt a)
  clear ha
  have ea := natOf_is a
  have eb := natOf_is b
  generalize natOf a = X at *
  generalize natOf b = N at *
  go_enter Tryz.func54, Tryz.ntmps54
  go_wp2
  clear ea eb
  go_loop [7, 9] (fun x i => ∃ k : Nat, k ≤ 64 ∧ k ≤ N ∧ i = .int .u64 k ∧ x = .int .u64 ((X / 2 ^ k : Nat) : Int)) (fun _ i => 64 - (intOf i).toNat)
  case atStart =>
    have hX := HX.out
    exact ⟨0, by omega, by omega, rfl, by simp⟩
  case round =>
    obtain ⟨k, hk, hn, rfl, rfl⟩ := hrel
    have hu := Lib.hid (down_step X k)
    obtain ⟨p, hp⟩ : ∃ p, p = X / 2 ^ k := ⟨_, rfl⟩
    rw [← hp]
    have Hp := Lib.hid hp
    clear hp
    by_cases h1 : k < N
    · by_cases h2 : k < 64
      · have e2 := next64 k h2
        have e1 := half64 p (by rw [Hp.out]; exact part_lt X k HX.out)
        go_wp2
        go_round
        case rel => exact ⟨k + 1, by omega, by omega, by go_num, by rw [← hu.out, ← Hp.out]; first | rfl | go_num⟩
        case measure => simp [intOf]; omega
      · go_wp2
        go_ret
        refine ⟨ret_i64 ?_, rfl⟩
        rw [Hp.out, ← HS.out, show min N 64 = k from by omega]
    · go_wp2
      go_ret
      refine ⟨ret_i64 ?_, rfl⟩
      rw [Hp.out, ← HS.out, show min N 64 = k from by omega]

/-! ### the bits of two numbers, one by one -/
def bit (f : Bool → Bool → Bool) (X Y k : Nat) : Bool := f (X.testBit k) (Y.testBit k)
theorem low_step (Z k : Nat) (h : Z.testBit k = true) : Z % 2 ^ (k + 1) = Z % 2 ^ k + 2 ^ k := by
  rw [Nat.mod_pow_succ]
  rw [Nat.testBit_eq_decide_div_mod_eq] at h
  have : Z / 2 ^ k % 2 = 1 := by simpa using h
  rw [this]; omega
theorem low_same (Z k : Nat) (h : Z.testBit k = false) : Z % 2 ^ (k + 1) = Z % 2 ^ k := by
  rw [Nat.mod_pow_succ]
  rw [Nat.testBit_eq_decide_div_mod_eq] at h
  have h1 : ¬ Z / 2 ^ k % 2 = 1 := by simpa using h
  have : Z / 2 ^ k % 2 = 0 := by omega
  rw [this]; omega
theorem one_shift (k : Nat) (h : k < 64) : IntKind.u64.wrap (2 ^ k) = ((2 ^ k : Nat) : Int) ∧ 2 ^ k ≤ 9223372036854775808 := by
  have hpk : 2 ^ k ≤ 9223372036854775808 := by
    rw [show (9223372036854775808 : Nat) = 2 ^ 63 from by decide]
    exact Nat.pow_le_pow_right (by decide) (by omega)
  refine ⟨?_, hpk⟩
  rw [u64_wrap, show ((2 : Int) ^ k) = ((2 ^ k : Nat) : Int) from by rw [Int.natCast_pow]; rfl]
  revert hpk
  generalize 2 ^ k = P
  intro hpk
  omega
theorem join64 (o P : Nat) (h : o < P) (hP : P ≤ 9223372036854775808) : IntKind.u64.wrap ((o : Int) + (P : Int)) = ((o + P : Nat) : Int) := by rw [u64_wrap]; omega
theorem u64_small : IntKind.u64.wrap 0 = 0 ∧ IntKind.u64.wrap 1 = 1 ∧ IntKind.u64.wrap 2 = 2 := by decide +kernel
theorem v_u64 {a b : Int} (h : a = b) : Value.int .u64 a = Value.int .u64 b := by rw [h]

set_option maxHeartbeats 4000000 in
set_option maxRecDepth 100000 in
theorem bits_calls (a b : Int) (one both : Bool) (Z : Nat) (hZ : Z < 18446744073709551616) (hb : ∀ k, Z.testBit k = ((one && ((natOf a).testBit k != (natOf b).testBit k)) || (both && ((natOf a).testBit k && (natOf b).testBit k)))) (w : World) :
    Calls Tryz.prog 53 #[.int .i64 a, .int .i64 b, .bool one, .bool both] w fun e w' => e = .returned (.int .i64 (wrap64 Z)) ∧ w = w' := by
  have HZ := Lib.hid hZ
  have HB := Lib.hid hb
  have HXl := Lib.hid (natOf_lt a)
  have HYl := Lib.hid (natOf_lt b)
  clear hZ hb
  have ea := natOf_is a
  have eb := natOf_is b
  generalize natOf a = X at *
  generalize natOf b = Y at *
  cases one <;> cases both
  all_goals
    go_enter Tryz.func53, Tryz.ntmps53
    go_wp2
    go_loop [9, 10, 11, 12] (fun x y o i => ∃ k : Nat, k ≤ 64 ∧ i = .int .i64 k ∧ x = .int .u64 ((X / 2 ^ k : Nat) : Int) ∧ y = .int .u64 ((Y / 2 ^ k : Nat) : Int) ∧ o = .int .u64 ((Z % 2 ^ k : Nat) : Int)) (fun _ _ _ i => 64 - (intOf i).toNat)
    case atStart => exact ⟨0, by omega, rfl, by simp, by simp, by simp [Nat.mod_one]⟩
    case round =>
      obtain ⟨k, hk, rfl, rfl, rfl, rfl⟩ := hrel
      have hbk := HB.out k
      rw [Nat.testBit_eq_decide_div_mod_eq (x := X), Nat.testBit_eq_decide_div_mod_eq (x := Y)] at hbk
      have hx := down_step X k
      have hy := down_step Y k
      have xl := part_lt X k HXl.out
      have yl := part_lt Y k HYl.out
      have ho : Z % 2 ^ k < 2 ^ k := Nat.mod_lt _ (Nat.pow_pos (by decide))
      have hz1 := low_step Z k
      have hz0 := low_same Z k
      clear ea eb
      have Ho : RowKit.Hid (k = 64 → Z % 2 ^ k = Z) := Lib.hid (fun e => by subst e; exact Nat.mod_eq_of_lt HZ.out)
      generalize X / 2 ^ k = p at *
      generalize Y / 2 ^ k = q at *
      generalize Z % 2 ^ k = o at *
      by_cases hlt : k < 64
      · obtain ⟨s1, s2⟩ := one_shift k hlt
        generalize hP : 2 ^ k = P at *
        have s3 := join64 o P ho s2
        have e1 := half64 p xl
        have e2 := half64 q yl
        obtain ⟨u0, u1, u2⟩ := u64_small
        have hp2 : p % 2 = 0 ∨ p % 2 = 1 := by omega
        have hq2 : q % 2 = 0 ∨ q % 2 = 1 := by omega
        rcases hp2 with hp2 | hp2 <;> rcases hq2 with hq2 | hq2
        all_goals
          have ep : (p : Int) % 2 = ((p % 2 : Nat) : Int) := rfl
          have eq : (q : Int) % 2 = ((q % 2 : Nat) : Int) := rfl
          rw [hp2] at ep
          rw [hq2] at eq
          rw [hp2, hq2] at hbk
          simp at hbk
          simp [hbk] at hz1 hz0
          have Hx := Lib.hid hx
          have Hy := Lib.hid hy
          clear hx hy hbk hp2 hq2 HB HZ Ho hP xl yl ho
          go_wp2
          go_round
          case rel => exact ⟨k + 1, by omega, by go_num, by rw [← Hx.out]; first | rfl | go_num, by rw [← Hy.out]; first | rfl | go_num, by first | rw [hz0] | (rw [hz1]; rfl)⟩
          case measure => simp [intOf]; omega
      · go_wp2
        go_ret
        exact ⟨ret_i64 (by rw [Ho.out (by omega)]), rfl⟩

theorem natOf_bv (a : Int) : natOf a = (BitVec.ofInt 64 a).toNat := by
  unfold natOf
  rw [u64_wrap, BitVec.toNat_ofInt]
  rfl
theorem and_calls (a b : Int) (w : World) : Calls Tryz.prog 53 #[.int .i64 a, .int .i64 b, .bool false, .bool true] w fun e w' => e = .returned (.int .i64 (twoV 16 a b)) ∧ w = w' := by
  have h := bits_calls a b false true (BitVec.ofInt 64 a &&& BitVec.ofInt 64 b).toNat (BitVec.isLt _) (fun k => by rw [BitVec.toNat_and, Nat.testBit_and, natOf_bv, natOf_bv]; simp) w
  rw [wrap_toInt, ← and_bv, ← v16] at h
  exact h
theorem or_calls (a b : Int) (w : World) : Calls Tryz.prog 53 #[.int .i64 a, .int .i64 b, .bool true, .bool true] w fun e w' => e = .returned (.int .i64 (twoV 17 a b)) ∧ w = w' := by
  have h := bits_calls a b true true (BitVec.ofInt 64 a ||| BitVec.ofInt 64 b).toNat (BitVec.isLt _) (fun k => by rw [BitVec.toNat_or, Nat.testBit_or, natOf_bv, natOf_bv]; cases (BitVec.ofInt 64 a).toNat.testBit k <;> cases (BitVec.ofInt 64 b).toNat.testBit k <;> rfl) w
  rw [wrap_toInt, ← or_bv, ← v17] at h
  exact h
theorem xor_calls (a b : Int) (w : World) : Calls Tryz.prog 53 #[.int .i64 a, .int .i64 b, .bool true, .bool false] w fun e w' => e = .returned (.int .i64 (twoV 18 a b)) ∧ w = w' := by
  have h := bits_calls a b true false (BitVec.ofInt 64 a ^^^ BitVec.ofInt 64 b).toNat (BitVec.isLt _) (fun k => by rw [BitVec.toNat_xor, Nat.testBit_xor, natOf_bv, natOf_bv]; cases (BitVec.ofInt 64 a).toNat.testBit k <;> cases (BitVec.ofInt 64 b).toNat.testBit k <;> rfl) w
  rw [wrap_toInt, ← xor_bv, ← v18] at h
  exact h

def manyV (op : Int) : Int := if 1 ≤ op ∧ op ≤ 10 then 1 else if 11 ≤ op ∧ op ≤ 27 then 2 else 0
theorem rmany_v (op : Int) (w : World) : Calls Tryz.prog 33 #[.int .i64 op] w fun e w' => e = .returned (.int .i64 (manyV op)) ∧ w = w' := rmany_calls op w

set_option maxHeartbeats 4000000 in
set_option maxRecDepth 100000 in
theorem rtwo_calls (op a b : Int) (ha : I64 a) (hb : I64 b) (w : World) :
    Calls Tryz.prog 34 #[.int .i64 op, .int .i64 a, .int .i64 b] w fun e w' => e = .returned (.tuple #[.int .i64 (twoV op a b), .int .i64 (twoE op b)]) ∧ w = w' := by
  by_cases h : op < 11 ∨ 27 < op
  · have e1 : twoV op a b = 0 := by unfold twoV; repeat (rw [if_neg (by omega)])
    have e2 : twoE op b = 1 := by unfold twoE; rw [if_pos h]
    have e3 : (manyV op != 2) = true := by unfold manyV; split <;> (try split) <;> first | rfl | (exfalso; omega)
    rw [e1, e2]
    clear h e1 e2 ha hb
    go_enter Tryz.func34, Tryz.ntmps34
    go_wp2_with (go_at_call 33; refine (rmany_v _ _).mono ?_; rintro e w' ⟨rfl, rfl⟩)
    go_ret2
    exact ⟨rfl, rfl⟩
  · have h' : op = 11 ∨ op = 12 ∨ op = 13 ∨ op = 14 ∨ op = 15 ∨ op = 16 ∨ op = 17 ∨ op = 18 ∨ op = 19 ∨ op = 20 ∨ op = 21 ∨ op = 22 ∨ op = 23 ∨ op = 24 ∨ op = 25 ∨ op = 26 ∨ op = 27 := by omega
    clear h
    rcases h' with rfl | rfl | rfl | rfl | rfl | rfl | rfl | rfl | rfl | rfl | rfl | rfl | rfl | rfl | rfl | rfl | rfl
    · have ev := v11 a b
      have ee : twoE 11 b = 0 := by simp [twoE]
      rw [ev, ee]
      clear ev ee ha hb
      have em : (manyV 11 != 2) = false := by decide
      go_enter Tryz.func34, Tryz.ntmps34
      go_wp2_with (first | (go_at_call 33; refine (rmany_v _ _).mono ?_; rintro e w' ⟨rfl, rfl⟩))
      go_ret2
      exact ⟨rfl, rfl⟩
    · have ev := v12 a b
      have ee : twoE 12 b = 0 := by simp [twoE]
      rw [ev, ee]
      clear ev ee ha hb
      have em : (manyV 12 != 2) = false := by decide
      go_enter Tryz.func34, Tryz.ntmps34
      go_wp2_with (first | (go_at_call 33; refine (rmany_v _ _).mono ?_; rintro e w' ⟨rfl, rfl⟩))
      go_ret2
      exact ⟨rfl, rfl⟩
    · have ev := v13 a b
      have ee : twoE 13 b = 0 := by simp [twoE]
      rw [ev, ee]
      clear ev ee ha hb
      have em : (manyV 13 != 2) = false := by decide
      go_enter Tryz.func34, Tryz.ntmps34
      go_wp2_with (first | (go_at_call 33; refine (rmany_v _ _).mono ?_; rintro e w' ⟨rfl, rfl⟩))
      go_ret2
      exact ⟨rfl, rfl⟩
    · by_cases hz : b = 0
      · subst hz
        have ev := v14z a
        have ee : twoE 14 0 = -10 := by simp [twoE]
        rw [ev, ee]
        clear ev ee ha hb
        have em : (manyV 14 != 2) = false := by decide
        go_enter Tryz.func34, Tryz.ntmps34
        go_wp2_with (first | (go_at_call 33; refine (rmany_v _ _).mono ?_; rintro e w' ⟨rfl, rfl⟩))
        go_ret2
        exact ⟨rfl, rfl⟩
      · have hz' : (b == 0) = false := by simpa using hz
        have ev := v14 a b hz
        have ee : twoE 14 b = 0 := by simp [twoE, hz]
        rw [ev, ee]
        clear ev ee
        have hd := Lib.hid (fun w => divided_calls a b ha hb hz w)
        clear ha hb hz
        have em : (manyV 14 != 2) = false := by decide
        go_enter Tryz.func34, Tryz.ntmps34
        go_wp2_with (first | (go_at_call 33; refine (rmany_v _ _).mono ?_; rintro e w' ⟨rfl, rfl⟩) | (go_at_call 52; refine (hd.out _).mono ?_; rintro e w' ⟨rfl, rfl⟩))
        go_ret2
        exact ⟨rfl, rfl⟩
    · by_cases hz : b = 0
      · subst hz
        have ev := v15z a
        have ee : twoE 15 0 = -10 := by simp [twoE]
        rw [ev, ee]
        clear ev ee ha hb
        have em : (manyV 15 != 2) = false := by decide
        go_enter Tryz.func34, Tryz.ntmps34
        go_wp2_with (first | (go_at_call 33; refine (rmany_v _ _).mono ?_; rintro e w' ⟨rfl, rfl⟩))
        go_ret2
        exact ⟨rfl, rfl⟩
      · have hz' : (b == 0) = false := by simpa using hz
        have ev := v15 a b hz
        have ee : twoE 15 b = 0 := by simp [twoE, hz]
        rw [ev, ee]
        clear ev ee
        have hd := Lib.hid (fun w => divided_calls a b ha hb hz w)
        clear ha hb hz
        have em : (manyV 15 != 2) = false := by decide
        go_enter Tryz.func34, Tryz.ntmps34
        go_wp2_with (first | (go_at_call 33; refine (rmany_v _ _).mono ?_; rintro e w' ⟨rfl, rfl⟩) | (go_at_call 52; refine (hd.out _).mono ?_; rintro e w' ⟨rfl, rfl⟩))
        go_ret2
        exact ⟨rfl, rfl⟩
    · have ee : twoE 16 b = 0 := by simp [twoE]
      rw [ee]
      clear ee ha hb
      have em : (manyV 16 != 2) = false := by decide
      go_enter Tryz.func34, Tryz.ntmps34
      go_wp2_with (first | (go_at_call 33; refine (rmany_v _ _).mono ?_; rintro e w' ⟨rfl, rfl⟩) | (go_at_call 53; refine (and_calls _ _ _).mono ?_; rintro e w' ⟨rfl, rfl⟩))
      go_ret2
      exact ⟨rfl, rfl⟩
    · have ee : twoE 17 b = 0 := by simp [twoE]
      rw [ee]
      clear ee ha hb
      have em : (manyV 17 != 2) = false := by decide
      go_enter Tryz.func34, Tryz.ntmps34
      go_wp2_with (first | (go_at_call 33; refine (rmany_v _ _).mono ?_; rintro e w' ⟨rfl, rfl⟩) | (go_at_call 53; refine (or_calls _ _ _).mono ?_; rintro e w' ⟨rfl, rfl⟩))
      go_ret2
      exact ⟨rfl, rfl⟩
    · have ee : twoE 18 b = 0 := by simp [twoE]
      rw [ee]
      clear ee ha hb
      have em : (manyV 18 != 2) = false := by decide
      go_enter Tryz.func34, Tryz.ntmps34
      go_wp2_with (first | (go_at_call 33; refine (rmany_v _ _).mono ?_; rintro e w' ⟨rfl, rfl⟩) | (go_at_call 53; refine (xor_calls _ _ _).mono ?_; rintro e w' ⟨rfl, rfl⟩))
      go_ret2
      exact ⟨rfl, rfl⟩
    · have ev := v19 a b
      have ee : twoE 19 b = 0 := by simp [twoE]
      rw [ev, ee]
      clear ev ee
      have hd := Lib.hid (fun w => moved_up_calls a b ha w)
      clear ha hb
      have em : (manyV 19 != 2) = false := by decide
      go_enter Tryz.func34, Tryz.ntmps34
      go_wp2_with (first | (go_at_call 33; refine (rmany_v _ _).mono ?_; rintro e w' ⟨rfl, rfl⟩) | (go_at_call 54; refine (hd.out _).mono ?_; rintro e w' ⟨rfl, rfl⟩))
      go_ret2
      exact ⟨rfl, rfl⟩
    · have ev := v20 a b
      have ee : twoE 20 b = 0 := by simp [twoE]
      rw [ev, ee]
      clear ev ee
      have hd := Lib.hid (fun w => moved_down_calls a b ha w)
      clear ha hb
      have em : (manyV 20 != 2) = false := by decide
      go_enter Tryz.func34, Tryz.ntmps34
      go_wp2_with (first | (go_at_call 33; refine (rmany_v _ _).mono ?_; rintro e w' ⟨rfl, rfl⟩) | (go_at_call 54; refine (hd.out _).mono ?_; rintro e w' ⟨rfl, rfl⟩))
      go_ret2
      exact ⟨rfl, rfl⟩
    · have ee : twoE 21 b = 0 := by simp [twoE]
      rw [ee]
      have hd := Lib.hid (fun w => compares_calls 21 a b ha hb w (by decide) (by decide))
      clear ee ha hb
      have em : (manyV 21 != 2) = false := by decide
      go_enter Tryz.func34, Tryz.ntmps34
      go_wp2_with (first | (go_at_call 33; refine (rmany_v _ _).mono ?_; rintro e w' ⟨rfl, rfl⟩) | (go_at_call 55; refine (hd.out _).mono ?_; rintro e w' ⟨rfl, rfl⟩))
      go_ret2
      exact ⟨rfl, rfl⟩
    · have ee : twoE 22 b = 0 := by simp [twoE]
      rw [ee]
      have hd := Lib.hid (fun w => compares_calls 22 a b ha hb w (by decide) (by decide))
      clear ee ha hb
      have em : (manyV 22 != 2) = false := by decide
      go_enter Tryz.func34, Tryz.ntmps34
      go_wp2_with (first | (go_at_call 33; refine (rmany_v _ _).mono ?_; rintro e w' ⟨rfl, rfl⟩) | (go_at_call 55; refine (hd.out _).mono ?_; rintro e w' ⟨rfl, rfl⟩))
      go_ret2
      exact ⟨rfl, rfl⟩
    · have ee : twoE 23 b = 0 := by simp [twoE]
      rw [ee]
      have hd := Lib.hid (fun w => compares_calls 23 a b ha hb w (by decide) (by decide))
      clear ee ha hb
      have em : (manyV 23 != 2) = false := by decide
      go_enter Tryz.func34, Tryz.ntmps34
      go_wp2_with (first | (go_at_call 33; refine (rmany_v _ _).mono ?_; rintro e w' ⟨rfl, rfl⟩) | (go_at_call 55; refine (hd.out _).mono ?_; rintro e w' ⟨rfl, rfl⟩))
      go_ret2
      exact ⟨rfl, rfl⟩
    · have ee : twoE 24 b = 0 := by simp [twoE]
      rw [ee]
      have hd := Lib.hid (fun w => compares_calls 24 a b ha hb w (by decide) (by decide))
      clear ee ha hb
      have em : (manyV 24 != 2) = false := by decide
      go_enter Tryz.func34, Tryz.ntmps34
      go_wp2_with (first | (go_at_call 33; refine (rmany_v _ _).mono ?_; rintro e w' ⟨rfl, rfl⟩) | (go_at_call 55; refine (hd.out _).mono ?_; rintro e w' ⟨rfl, rfl⟩))
      go_ret2
      exact ⟨rfl, rfl⟩
    · have ee : twoE 25 b = 0 := by simp [twoE]
      rw [ee]
      have hd := Lib.hid (fun w => compares_calls 25 a b ha hb w (by decide) (by decide))
      clear ee ha hb
      have em : (manyV 25 != 2) = false := by decide
      go_enter Tryz.func34, Tryz.ntmps34
      go_wp2_with (first | (go_at_call 33; refine (rmany_v _ _).mono ?_; rintro e w' ⟨rfl, rfl⟩) | (go_at_call 55; refine (hd.out _).mono ?_; rintro e w' ⟨rfl, rfl⟩))
      go_ret2
      exact ⟨rfl, rfl⟩
    · have ee : twoE 26 b = 0 := by simp [twoE]
      rw [ee]
      have hd := Lib.hid (fun w => compares_calls 26 a b ha hb w (by decide) (by decide))
      clear ee ha hb
      have em : (manyV 26 != 2) = false := by decide
      go_enter Tryz.func34, Tryz.ntmps34
      go_wp2_with (first | (go_at_call 33; refine (rmany_v _ _).mono ?_; rintro e w' ⟨rfl, rfl⟩) | (go_at_call 55; refine (hd.out _).mono ?_; rintro e w' ⟨rfl, rfl⟩))
      go_ret2
      exact ⟨rfl, rfl⟩
    · have ee : twoE 27 b = 0 := by simp [twoE]
      rw [ee]
      have hd := Lib.hid (fun w => compares_calls 27 a b ha hb w (by decide) (by decide))
      clear ee ha hb
      have em : (manyV 27 != 2) = false := by decide
      go_enter Tryz.func34, Tryz.ntmps34
      go_wp2_with (first | (go_at_call 33; refine (rmany_v _ _).mono ?_; rintro e w' ⟨rfl, rfl⟩) | (go_at_call 55; refine (hd.out _).mono ?_; rintro e w' ⟨rfl, rfl⟩))
      go_ret2
      exact ⟨rfl, rfl⟩
end Go.Proofs.YtegcecpmdgljpaaGreatDoor.L1
