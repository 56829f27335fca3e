/- Layer 2 (package pair): the signed product, and the long division in words. Condition: cells are integers of 64 bits. Layer 2 (package pair): the division of signed numbers that rounds towards 0. Condition: cells are integers of 64 bits, the divisor is not 0. Layer 2 (package pair): the three divisions. Condition: cells are integers of 64 bits. Layer 2 (package pair): the division that rounds down, and the one without signs. Condition: cells are integers of 64 bits. The document's answers for layer 2: the division without signs, and the one that rounds towards 0. Condition: cells are integers of 64 bits. -/
import Derived.Test.YthmdobajilladaaDoorC2ProgB
import Derived.Test.YthmdobajilladaaDoorC2RefC
namespace Go.Proofs.YthmdobajilladaaDoor
open Go.RowKit
set_option linter.unusedVariables false

theorem word_div (h l y : Nat) (hy : 0 < y) : ((h % y) * 18446744073709551616 + l) / y + h / y * 18446744073709551616 = (h * 18446744073709551616 + l) / y ∧ ((h % y) * 18446744073709551616 + l) % y = (h * 18446744073709551616 + l) % y := by
  have e := Nat.div_add_mod h y
  obtain ⟨q, hq⟩ : ∃ q, q = h / y := ⟨_, rfl⟩
  obtain ⟨r, hr⟩ : ∃ q, q = h % y := ⟨_, rfl⟩
  rw [← hq, ← hr] at e ⊢
  have e2 : h * 18446744073709551616 + l = (r * 18446744073709551616 + l) + y * (q * 18446744073709551616) := by
    rw [← Nat.mul_assoc]; omega
  rw [e2, Nat.add_mul_div_left _ _ hy, Nat.add_mul_mod_self_left]
  exact ⟨rfl, rfl⟩
theorem lo_hi_nat (x y : Nat) (hy : y < 18446744073709551616) (hx : x < 18446744073709551616) : wrap64 (y : Int) = lo ((y + x * 18446744073709551616 : Nat) : Int) ∧ wrap64 (x : Int) = hi ((y + x * 18446744073709551616 : Nat) : Int) := by
  unfold lo hi wrap64; omega
theorem W_nat (a c : Int) : ∃ X Y P : Nat, U a = X ∧ U c = Y ∧ W a c = P ∧ P = Y * 18446744073709551616 + X ∧ X < 18446744073709551616 ∧ Y < 18446744073709551616 := by
  obtain ⟨a1, a2⟩ := U_bd a
  obtain ⟨b1, b2⟩ := U_bd c
  obtain ⟨X, hX⟩ := Int.eq_ofNat_of_zero_le a1
  obtain ⟨Y, hY⟩ := Int.eq_ofNat_of_zero_le b1
  refine ⟨X, Y, Y * 18446744073709551616 + X, hX, hY, ?_, rfl, by omega, by omega⟩
  unfold W
  omega
end Go.Proofs.YthmdobajilladaaDoor

namespace Go.Proofs.YthmdobajilladaaDoor
open Go.RowKit
set_option linter.unusedVariables false

theorem neg_same (n : Int) : lo (-V (lo n) (hi n)) = lo (-n) ∧ hi (-V (lo n) (hi n)) = hi (-n) := by
  obtain ⟨k, hk⟩ := V_mk n
  exact same (-k) (by rw [hk]; omega)
theorem own2 (w : World) (a b c d : Value) : Own ((w.alloc (.cells #[a, b] 56)).alloc (.cells #[c, d] 56)) w.heap.size a b ∧ Own ((w.alloc (.cells #[a, b] 56)).alloc (.cells #[c, d] 56)) (w.heap.size + 1) c d := by
  refine ⟨Own.last.alloc _ _, ?_⟩
  have h := Own.last (X := w.alloc (.cells #[a, b] 56)) (x := c) (y := d) (t := 56)
  rwa [size_alloc] at h
theorem own3 (w : World) (a b c d e f : Value) : Own (((w.alloc (.cells #[a, b] 56)).alloc (.cells #[c, d] 56)).alloc (.cells #[e, f] 56)) w.heap.size a b ∧ Own (((w.alloc (.cells #[a, b] 56)).alloc (.cells #[c, d] 56)).alloc (.cells #[e, f] 56)) (w.heap.size + 1) c d
    ∧ Own (((w.alloc (.cells #[a, b] 56)).alloc (.cells #[c, d] 56)).alloc (.cells #[e, f] 56)) (w.heap.size + 1 + 1) e f := by
  refine ⟨(own2 w a b c d).1.alloc _ _, (own2 w a b c d).2.alloc _ _, ?_⟩
  have h := Own.last (X := (w.alloc (.cells #[a, b] 56)).alloc (.cells #[c, d] 56)) (x := e) (y := f) (t := 56)
  rwa [size_alloc, size_alloc] at h

end Go.Proofs.YthmdobajilladaaDoor

namespace Go.Proofs.YthmdobajilladaaDoor
open Go.RowKit
set_option linter.unusedVariables false

/-- Is an integer a cell? -/
def cel (q : Int) : Bool := decide (-9223372036854775808 ≤ q ∧ q ≤ 9223372036854775807)
theorem cel_yes {q : Int} (h : cel q = true) : I64 q := by unfold cel at h; simpa [I64] using h
theorem cel_no {q : Int} (h : cel q = false) : ¬ I64 q := by unfold cel at h; simpa [I64] using h
theorem cel_of {q : Int} (h : I64 q) : cel q = true := by unfold cel; simpa [I64] using h
/-- What a division tells: nothing by 0, nothing beyond; its code. -/
def okR (z ok : Bool) (r : Int) : Int := if z then 0 else if ok then r else 0
def okE (z ok : Bool) : Int := if z then -10 else if ok then 0 else -11
theorem in_range (q : Int) (h0 : -170141183460469231731687303715884105728 ≤ q) (h1 : q ≤ 170141183460469231731687303715884105728) :
    (lo q == lo (lo q) && hi q == hi (lo q)) = cel q := by
  rw [fits_is (lo q) (hi q) (lo_i64 q) (hi_i64 q), cel]
  rw [decide_eq_decide]
  unfold V U lo hi wrap64
  omega
theorem trunc_bd (v b : Int) (hv : -170141183460469231731687303715884105728 ≤ v ∧ v ≤ 170141183460469231731687303715884105727) : -170141183460469231731687303715884105728 ≤ v.tdiv b ∧ v.tdiv b ≤ 170141183460469231731687303715884105728 := by
  have h : (v.tdiv b).natAbs ≤ v.natAbs := by rw [Int.natAbs_tdiv]; exact Nat.div_le_self _ _
  omega
end Go.Proofs.YthmdobajilladaaDoor

namespace Go.Proofs.YthmdobajilladaaDoor
open Go.RowKit
set_option linter.unusedVariables false

/-- The quotient rounded down, and what is left then. -/
def FQ (v b : Int) : Int := if b < 0 then (-v) / (-b) else v / b
def FR (v b : Int) : Int := if b < 0 then -((-v) % (-b)) else v % b
theorem floor_one {v b q r : Int} (h : v = q * b + r) (hr : (0 ≤ r ∧ r < b) ∨ (b < r ∧ r ≤ 0)) : FQ v b = q ∧ FR v b = r := by
  unfold FQ FR
  rcases hr with ⟨h0, h1⟩ | ⟨h0, h1⟩
  · have hn : ¬ b < 0 := by omega
    rw [if_neg hn, if_neg hn]
    exact (Int.ediv_emod_unique (by omega)).2 ⟨by rw [Int.mul_comm]; omega, h0, h1⟩
  · have hn : b < 0 := by omega
    rw [if_pos hn, if_pos hn]
    have e := (Int.ediv_emod_unique (a := -v) (b := -b) (r := -r) (q := q) (by omega)).2 ⟨by rw [Int.neg_mul, Int.mul_comm]; omega, by omega, by omega⟩
    exact ⟨e.1, by omega⟩
theorem floor_same (v b : Int) (hb : b ≠ 0) (h : v.tmod b = 0 ∨ (v.tmod b < 0 ↔ b < 0)) : FQ v b = v.tdiv b ∧ FR v b = v.tmod b := by
  have e := Int.tdiv_mul_add_tmod v b
  have hl := tmod_bd v b hb
  refine floor_one e.symm ?_
  omega
theorem floor_less (v b : Int) (hb : b ≠ 0) (h0 : v.tmod b ≠ 0) (h : ¬ (v.tmod b < 0 ↔ b < 0)) : FQ v b = v.tdiv b + -1 ∧ FR v b = v.tmod b + b := by
  have e := Int.tdiv_mul_add_tmod v b
  have hl := tmod_bd v b hb
  refine floor_one (by rw [Int.add_mul]; omega) ?_
  omega
theorem floor_bd (v b : Int) (hv : -170141183460469231731687303715884105728 ≤ v ∧ v ≤ 170141183460469231731687303715884105727) (hb : b ≠ 0) (hb2 : I64 b) (h0 : v.tmod b ≠ 0) (h : ¬ (v.tmod b < 0 ↔ b < 0)) :
    (-170141183460469231731687303715884105728 ≤ v.tdiv b + -1 ∧ v.tdiv b + -1 ≤ 170141183460469231731687303715884105728) ∧ I64 (v.tmod b + b) := by
  have hl := tmod_bd v b hb
  have e := Int.tdiv_mul_add_tmod v b
  have hs := tmod_sign v b
  have h1 : (v.tdiv b).natAbs ≤ v.natAbs / 2 := by
    rw [Int.natAbs_tdiv]
    refine Nat.div_le_div_left ?_ (by omega)
    omega
  unfold I64 at *
  omega
theorem udiv_range (Q : Nat) (h : Q < 340282366920938463463374607431768211456) : (hi (Q : Int) == 0) = decide (Q ≤ 18446744073709551615) := by
  rw [Bool.eq_iff_iff]
  simp only [beq_iff_eq, decide_eq_true_eq]
  unfold hi wrap64
  omega
theorem okR_zero (k : Bool) (r : Int) : okR true k r = 0 := rfl
theorem okE_zero (k : Bool) : okE true k = -10 := rfl
theorem okR_near (r : Int) : okR false true r = r := rfl
theorem okE_near : okE false true = 0 := rfl
theorem okR_far (r : Int) : okR false false r = 0 := rfl
theorem okE_far : okE false false = -11 := rfl
theorem ediv_nat (P B : Nat) : (P : Int) / (B : Int) = ((P / B : Nat) : Int) := by rw [Int.natCast_ediv]
theorem emod_nat (P B : Nat) : (P : Int) % (B : Int) = ((P % B : Nat) : Int) := by rw [Int.natCast_emod]
end Go.Proofs.YthmdobajilladaaDoor

namespace Go.Proofs.YthmdobajilladaaDoor
open Go.RowKit
set_option linter.unusedVariables false

theorem rudiv_zero (w0 : World) (a c r q : Int) (k : Bool) (w : World) (h : Ext w0 w) :
    Calls Tryd.prog 100 #[.agg #[.int .i64 a, .int .i64 c], .int .i64 0] w fun e w' => e = .returned (.tuple #[.int .i64 (okR true k r), .int .i64 (okR true k q), .int .i64 (okE true k)]) ∧ Ext w0 w' := by
  go_enter Tryd.func100, Tryd.ntmps100
  go_wp2
  go_ret3
  exact ⟨rfl, h.cells _ _⟩
set_option maxRecDepth 100000 in
theorem rudiv_near (w0 : World) (a c b x y L : Int) (hz2 : (b == 0) = false) (hz3 : ¬ b = 0) (hr : (y != 0) = false)
    (hdv : RowKit.Hid (∀ w, Calls Tryd.prog 102 #[.agg #[.int .i64 a, .int .i64 c], .int .i64 b] w fun e w' => e = .returned (.tuple #[.int .i64 L, .agg #[.int .i64 x, .int .i64 y]]) ∧ Ext w w')) (w : World) (h : Ext w0 w) :
    Calls Tryd.prog 100 #[.agg #[.int .i64 a, .int .i64 c], .int .i64 b] w fun e w' => e = .returned (.tuple #[.int .i64 L, .int .i64 x, .int .i64 0]) ∧ Ext w0 w' := by
  go_enter Tryd.func100, Tryd.ntmps100
  go_wp2_with fail
  have hs0 := h.1.size
  refine (hdv.out _).mono ?_
  rintro e w1 ⟨rfl, hx1⟩
  have hX := (h.cells _ _).trans hx1
  have lt := hX.1.size
  clear h hx1 hdv
  go_wp2_with fail
  go_region
  go_wp2
  go_ret3
  exact ⟨rfl, (hX.cells _ _).drew⟩
set_option maxRecDepth 100000 in
theorem rudiv_far (w0 : World) (a c b x y L : Int) (hz2 : (b == 0) = false) (hz3 : ¬ b = 0) (hr : (y != 0) = true)
    (hdv : RowKit.Hid (∀ w, Calls Tryd.prog 102 #[.agg #[.int .i64 a, .int .i64 c], .int .i64 b] w fun e w' => e = .returned (.tuple #[.int .i64 L, .agg #[.int .i64 x, .int .i64 y]]) ∧ Ext w w')) (w : World) (h : Ext w0 w) :
    Calls Tryd.prog 100 #[.agg #[.int .i64 a, .int .i64 c], .int .i64 b] w fun e w' => e = .returned (.tuple #[.int .i64 0, .int .i64 0, .int .i64 (-11)]) ∧ Ext w0 w' := by
  go_enter Tryd.func100, Tryd.ntmps100
  go_wp2_with fail
  have hs0 := h.1.size
  refine (hdv.out _).mono ?_
  rintro e w1 ⟨rfl, hx1⟩
  have hX := (h.cells _ _).trans hx1
  have lt := hX.1.size
  clear h hx1 hdv
  go_wp2_with fail
  go_ret3
  exact ⟨rfl, hX.cells _ _⟩
theorem rudiv_calls (w0 : World) (a c b : Int) (ha : I64 a) (hc : I64 c) (hb : I64 b) (w : World) (h : Ext w0 w) :
    Calls Tryd.prog 100 #[.agg #[.int .i64 a, .int .i64 c], .int .i64 b] w fun e w' => e = .returned (.tuple #[.int .i64 (okR (b == 0) (decide (W a c / U b ≤ 18446744073709551615)) (wrap64 (W a c % U b))), .int .i64 (okR (b == 0) (decide (W a c / U b ≤ 18446744073709551615)) (lo (W a c / U b))), .int .i64 (okE (b == 0) (decide (W a c / U b ≤ 18446744073709551615)))]) ∧ Ext w0 w' := by
  by_cases hz : b = 0
  · subst hz
    exact rudiv_zero w0 a c _ _ _ w h
  · have hz2 : (b == 0) = false := by simpa using hz
    obtain ⟨w1, w2⟩ := W_bd a c
    obtain ⟨P, hP⟩ := Int.eq_ofNat_of_zero_le w1
    obtain ⟨u1, u2⟩ := U_bd b
    obtain ⟨B, hB⟩ := Int.eq_ofNat_of_zero_le u1
    have hdv := Lib.hid (fun w => rlong_calls w a c b ha hc hb hz P B hP hB w (Ext.refl w))
    have hlt : P / B < 340282366920938463463374607431768211456 := Nat.lt_of_le_of_lt (Nat.div_le_self _ _) (by omega)
    have hr := udiv_range (P / B) hlt
    rw [hP, hB, ediv_nat, emod_nat, hz2]
    have e3 : decide (((P / B : Nat) : Int) ≤ 18446744073709551615) = decide (P / B ≤ 18446744073709551615) := by rw [decide_eq_decide]; omega
    rw [e3]
    by_cases hq : P / B ≤ 18446744073709551615
    · have hd : decide (P / B ≤ 18446744073709551615) = true := decide_eq_true hq
      rw [hd] at hr ⊢
      rw [okR_near, okR_near, okE_near]
      exact rudiv_near w0 a c b _ _ _ hz2 hz (by rw [bne, hr]; rfl) hdv w h
    · have hd : decide (P / B ≤ 18446744073709551615) = false := decide_eq_false hq
      rw [hd] at hr ⊢
      rw [okR_far, okR_far, okE_far]
      exact rudiv_far w0 a c b _ _ _ hz2 hz (by rw [bne, hr]; rfl) hdv w h

theorem rneg_mk (n : Int) (W : World) : Calls Tryd.prog 70 #[.agg #[.int .i64 (lo n), .int .i64 (hi n)]] W fun e w' => e = .returned (.agg #[.int .i64 (lo (-n)), .int .i64 (hi (-n))]) ∧ Ext W w' := by
  have h := rneg_calls W (lo n) (hi n) (lo_i64 n) (hi_i64 n) W (Ext.refl W)
  rw [(neg_same n).1, (neg_same n).2] at h
  exact h
end Go.Proofs.YthmdobajilladaaDoor
