/- Layer 2 (package pair): the division that rounds down, and the one without signs. Condition: cells are integers of 64 bits. -/
import Derived.Test.YtheealjhmndbgaaDoorC2ProgE
namespace Go.Proofs.YtheealjhmndbgaaDoor
open Go.RowKit
set_option linter.unusedVariables false

/-- The quotient rounded down, and what is left then. -/
def FQ (v b : Int) : Int := if b < 0 then (-v) / (-b) else v / b
def FR (v b : Int) : Int := if b < 0 then -((-v) % (-b)) else v % b
theorem floor_one {v b q r : Int} (h : v = q * b + r) (hr : (0 ≤ r ∧ r < b) ∨ (b < r ∧ r ≤ 0)) : FQ v b = q ∧ FR v b = r := by
  unfold FQ FR
  rcases hr with ⟨h0, h1⟩ | ⟨h0, h1⟩
  · have hn : ¬ b < 0 := by omega
    rw [if_neg hn, if_neg hn]
    exact (Int.ediv_emod_unique (by omega)).2 ⟨by rw [Int.mul_comm]; omega, h0, h1⟩
  · have hn : b < 0 := by omega
    rw [if_pos hn, if_pos hn]
    have e := (Int.ediv_emod_unique (a := -v) (b := -b) (r := -r) (q := q) (by omega)).2 ⟨by rw [Int.neg_mul, Int.mul_comm]; omega, by omega, by omega⟩
    exact ⟨e.1, by omega⟩
theorem floor_same (v b : Int) (hb : b ≠ 0) (h : v.tmod b = 0 ∨ (v.tmod b < 0 ↔ b < 0)) : FQ v b = v.tdiv b ∧ FR v b = v.tmod b := by
  have e := Int.tdiv_mul_add_tmod v b
  have hl := tmod_bd v b hb
  refine floor_one e.symm ?_
  omega
theorem floor_less (v b : Int) (hb : b ≠ 0) (h0 : v.tmod b ≠ 0) (h : ¬ (v.tmod b < 0 ↔ b < 0)) : FQ v b = v.tdiv b + -1 ∧ FR v b = v.tmod b + b := by
  have e := Int.tdiv_mul_add_tmod v b
  have hl := tmod_bd v b hb
  refine floor_one (by rw [Int.add_mul]; omega) ?_
  omega
theorem floor_bd (v b : Int) (hv : -170141183460469231731687303715884105728 ≤ v ∧ v ≤ 170141183460469231731687303715884105727) (hb : b ≠ 0) (hb2 : I64 b) (h0 : v.tmod b ≠ 0) (h : ¬ (v.tmod b < 0 ↔ b < 0)) :
    (-170141183460469231731687303715884105728 ≤ v.tdiv b + -1 ∧ v.tdiv b + -1 ≤ 170141183460469231731687303715884105728) ∧ I64 (v.tmod b + b) := by
  have hl := tmod_bd v b hb
  have e := Int.tdiv_mul_add_tmod v b
  have hs := tmod_sign v b
  have h1 : (v.tdiv b).natAbs ≤ v.natAbs / 2 := by
    rw [Int.natAbs_tdiv]
    refine Nat.div_le_div_left ?_ (by omega)
    omega
  unfold I64 at *
  omega
theorem udiv_range (Q : Nat) (h : Q < 340282366920938463463374607431768211456) : (hi (Q : Int) == 0) = decide (Q ≤ 18446744073709551615) := by
  rw [Bool.eq_iff_iff]
  simp only [beq_iff_eq, decide_eq_true_eq]
  unfold hi wrap64
  omega
theorem udiv_zero (w0 : World) (a c r q : Int) (k : Bool) (w : World) (h : Ext w0 w) :
    Calls Tryd.prog 55 #[.agg #[.int .i64 a, .int .i64 c], .int .i64 0] w fun e w' => e = .returned (.tuple #[.int .i64 (okR true k r), .int .i64 (okR true k q), .int .i64 (okE true k)]) ∧ Ext w0 w' := by
  go_enter Tryd.func55, Tryd.ntmps55
  go_wp2
  go_ret3
  exact ⟨rfl, h.cells _ _⟩
set_option maxRecDepth 100000 in
theorem udiv_near (w0 : World) (a c b x y : Int) (R B : Nat) (hz2 : (b == 0) = false) (hz3 : ¬ b = 0) (eb : IntKind.u64.wrap b = (B : Int)) (hr : (y == 0) = true)
    (hdv : RowKit.Hid (∀ w, Calls Tryd.prog 59 #[.agg #[.int .i64 a, .int .i64 c], .int .u64 (B : Int)] w fun e w' => e = .returned (.tuple #[.int .u64 (R : Int), .agg #[.int .i64 x, .int .i64 y]]) ∧ Ext w w')) (w : World) (h : Ext w0 w) :
    Calls Tryd.prog 55 #[.agg #[.int .i64 a, .int .i64 c], .int .i64 b] w fun e w' => e = .returned (.tuple #[.int .i64 (wrap64 (R : Int)), .int .i64 x, .int .i64 0]) ∧ Ext w0 w' := by
  go_enter Tryd.func55, Tryd.ntmps55
  go_wp2_with fail
  have hs0 := h.1.size
  refine (hdv.out _).mono ?_
  rintro e w1 ⟨rfl, hx1⟩
  have hX := (h.cells _ _).trans hx1
  have lt := hX.1.size
  clear h hx1 hdv
  go_wp2_with fail
  go_region
  go_wp2
  go_ret3
  exact ⟨rfl, (hX.cells _ _).drew⟩
set_option maxRecDepth 100000 in
theorem udiv_far (w0 : World) (a c b x y : Int) (R B : Nat) (hz2 : (b == 0) = false) (hz3 : ¬ b = 0) (eb : IntKind.u64.wrap b = (B : Int)) (hr : (y == 0) = false)
    (hdv : RowKit.Hid (∀ w, Calls Tryd.prog 59 #[.agg #[.int .i64 a, .int .i64 c], .int .u64 (B : Int)] w fun e w' => e = .returned (.tuple #[.int .u64 (R : Int), .agg #[.int .i64 x, .int .i64 y]]) ∧ Ext w w')) (w : World) (h : Ext w0 w) :
    Calls Tryd.prog 55 #[.agg #[.int .i64 a, .int .i64 c], .int .i64 b] w fun e w' => e = .returned (.tuple #[.int .i64 0, .int .i64 0, .int .i64 (-11)]) ∧ Ext w0 w' := by
  go_enter Tryd.func55, Tryd.ntmps55
  go_wp2_with fail
  have hs0 := h.1.size
  refine (hdv.out _).mono ?_
  rintro e w1 ⟨rfl, hx1⟩
  have hX := (h.cells _ _).trans hx1
  have lt := hX.1.size
  clear h hx1 hdv
  go_wp2_with fail
  go_ret3
  exact ⟨rfl, hX.cells _ _⟩
theorem okR_zero (k : Bool) (r : Int) : okR true k r = 0 := rfl
theorem okE_zero (k : Bool) : okE true k = -10 := rfl
theorem okR_near (r : Int) : okR false true r = r := rfl
theorem okE_near : okE false true = 0 := rfl
theorem okR_far (r : Int) : okR false false r = 0 := rfl
theorem okE_far : okE false false = -11 := rfl
theorem ediv_nat (P B : Nat) : (P : Int) / (B : Int) = ((P / B : Nat) : Int) := by rw [Int.natCast_ediv]
theorem emod_nat (P B : Nat) : (P : Int) % (B : Int) = ((P % B : Nat) : Int) := by rw [Int.natCast_emod]
theorem udiv_calls (w0 : World) (a c b : Int) (ha : I64 a) (hc : I64 c) (hb : I64 b) (w : World) (h : Ext w0 w) :
    Calls Tryd.prog 55 #[.agg #[.int .i64 a, .int .i64 c], .int .i64 b] w fun e w' => e = .returned (.tuple #[.int .i64 (okR (b == 0) (decide (W a c / U b ≤ 18446744073709551615)) (wrap64 (W a c % U b))), .int .i64 (okR (b == 0) (decide (W a c / U b ≤ 18446744073709551615)) (lo (W a c / U b))), .int .i64 (okE (b == 0) (decide (W a c / U b ≤ 18446744073709551615)))]) ∧ Ext w0 w' := by
  by_cases hz : b = 0
  · subst hz
    exact udiv_zero w0 a c _ _ _ w h
  · have hz2 : (b == 0) = false := by simpa using hz
    obtain ⟨w1, w2⟩ := W_bd a c
    obtain ⟨P, hP⟩ := Int.eq_ofNat_of_zero_le w1
    obtain ⟨u1, u2⟩ := U_bd b
    obtain ⟨B, hB⟩ := Int.eq_ofNat_of_zero_le u1
    have hB0 : 0 < B := by
      have : U b ≠ 0 := by unfold U; unfold I64 at hb; omega
      omega
    have eb : IntKind.u64.wrap b = (B : Int) := by rw [← hB]; exact u64_wrap b
    have hdv := Lib.hid (fun w => divide_calls w a c P B hP hB0 (by omega) w (Ext.refl w))
    have hlt : P / B < 340282366920938463463374607431768211456 := Nat.lt_of_le_of_lt (Nat.div_le_self _ _) (by omega)
    have hr := udiv_range (P / B) hlt
    rw [hP, hB, ediv_nat, emod_nat, hz2]
    have e3 : decide (((P / B : Nat) : Int) ≤ 18446744073709551615) = decide (P / B ≤ 18446744073709551615) := by rw [decide_eq_decide]; omega
    rw [e3]
    by_cases hq : P / B ≤ 18446744073709551615
    · have hd : decide (P / B ≤ 18446744073709551615) = true := decide_eq_true hq
      rw [hd] at hr ⊢
      rw [okR_near, okR_near, okE_near]
      exact udiv_near w0 a c b _ _ (P % B) B hz2 hz eb hr hdv w h
    · have hd : decide (P / B ≤ 18446744073709551615) = false := decide_eq_false hq
      rw [hd] at hr ⊢
      rw [okR_far, okR_far, okE_far]
      exact udiv_far w0 a c b _ _ (P % B) B hz2 hz eb hr hdv w h

end Go.Proofs.YtheealjhmndbgaaDoor
