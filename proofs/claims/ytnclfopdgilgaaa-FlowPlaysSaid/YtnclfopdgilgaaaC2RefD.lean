/- The document's answers for layer 2: the division without signs, and the one that rounds towards 0. Condition: cells are integers of 64 bits. -/
import Derived.Test.YtnclfopdgilgaaaC2RefC
namespace Go.Proofs.Ytnclfopdgilgaaa
open Go.RowKit
set_option linter.unusedVariables false

def okR (z ok : Bool) (r : Int) : Int := if z then 0 else if ok then r else 0
def okE (z ok : Bool) : Int := if z then -10 else if ok then 0 else -11
theorem udiv_range (Q : Nat) (h : Q < 340282366920938463463374607431768211456) : (hi (Q : Int) == 0) = decide (Q ≤ 18446744073709551615) := by
  rw [Bool.eq_iff_iff]
  simp only [beq_iff_eq, decide_eq_true_eq]
  unfold hi wrap64
  omega
theorem neg_same (n : Int) : lo (-V (lo n) (hi n)) = lo (-n) ∧ hi (-V (lo n) (hi n)) = hi (-n) := by
  obtain ⟨k, hk⟩ := V_mk n
  exact same (-k) (by rw [hk]; omega)
theorem okR_zero (k : Bool) (r : Int) : okR true k r = 0 := rfl
theorem okE_zero (k : Bool) : okE true k = -10 := rfl
theorem okR_near (r : Int) : okR false true r = r := rfl
theorem okE_near : okE false true = 0 := rfl
theorem okR_far (r : Int) : okR false false r = 0 := rfl
theorem okE_far : okE false false = -11 := rfl
theorem ediv_nat (P B : Nat) : (P : Int) / (B : Int) = ((P / B : Nat) : Int) := by rw [Int.natCast_ediv]
theorem emod_nat (P B : Nat) : (P : Int) % (B : Int) = ((P % B : Nat) : Int) := by rw [Int.natCast_emod]

theorem rudiv_zero (w0 : World) (a c r q : Int) (k : Bool) (w : World) (h : Ext w0 w) :
    Calls Try.prog 70 #[.agg #[.int .i64 a, .int .i64 c], .int .i64 0] w fun e w' => e = .returned (.tuple #[.int .i64 (okR true k r), .int .i64 (okR true k q), .int .i64 (okE true k)]) ∧ Ext w0 w' := by
  go_enter Try.func70, Try.ntmps70
  go_wp2
  go_ret3
  exact ⟨rfl, h.cells _ _⟩
set_option maxRecDepth 100000 in
theorem rudiv_near (w0 : World) (a c b x y L : Int) (hz2 : (b == 0) = false) (hz3 : ¬ b = 0) (hr : (y != 0) = false)
    (hdv : RowKit.Hid (∀ w, Calls Try.prog 72 #[.agg #[.int .i64 a, .int .i64 c], .int .i64 b] w fun e w' => e = .returned (.tuple #[.int .i64 L, .agg #[.int .i64 x, .int .i64 y]]) ∧ Ext w w')) (w : World) (h : Ext w0 w) :
    Calls Try.prog 70 #[.agg #[.int .i64 a, .int .i64 c], .int .i64 b] w fun e w' => e = .returned (.tuple #[.int .i64 L, .int .i64 x, .int .i64 0]) ∧ Ext w0 w' := by
  go_enter Try.func70, Try.ntmps70
  go_wp2_with fail
  have hs0 := h.1.size
  refine (hdv.out _).mono ?_
  rintro e w1 ⟨rfl, hx1⟩
  have hX := (h.cells _ _).trans hx1
  have lt := hX.1.size
  clear h hx1 hdv
  go_wp2_with fail
  go_region
  go_wp2
  go_ret3
  exact ⟨rfl, (hX.cells _ _).drew⟩
set_option maxRecDepth 100000 in
theorem rudiv_far (w0 : World) (a c b x y L : Int) (hz2 : (b == 0) = false) (hz3 : ¬ b = 0) (hr : (y != 0) = true)
    (hdv : RowKit.Hid (∀ w, Calls Try.prog 72 #[.agg #[.int .i64 a, .int .i64 c], .int .i64 b] w fun e w' => e = .returned (.tuple #[.int .i64 L, .agg #[.int .i64 x, .int .i64 y]]) ∧ Ext w w')) (w : World) (h : Ext w0 w) :
    Calls Try.prog 70 #[.agg #[.int .i64 a, .int .i64 c], .int .i64 b] w fun e w' => e = .returned (.tuple #[.int .i64 0, .int .i64 0, .int .i64 (-11)]) ∧ Ext w0 w' := by
  go_enter Try.func70, Try.ntmps70
  go_wp2_with fail
  have hs0 := h.1.size
  refine (hdv.out _).mono ?_
  rintro e w1 ⟨rfl, hx1⟩
  have hX := (h.cells _ _).trans hx1
  have lt := hX.1.size
  clear h hx1 hdv
  go_wp2_with fail
  go_ret3
  exact ⟨rfl, hX.cells _ _⟩
theorem rudiv_calls (w0 : World) (a c b : Int) (ha : I64 a) (hc : I64 c) (hb : I64 b) (w : World) (h : Ext w0 w) :
    Calls Try.prog 70 #[.agg #[.int .i64 a, .int .i64 c], .int .i64 b] w fun e w' => e = .returned (.tuple #[.int .i64 (okR (b == 0) (decide (W a c / U b ≤ 18446744073709551615)) (wrap64 (W a c % U b))), .int .i64 (okR (b == 0) (decide (W a c / U b ≤ 18446744073709551615)) (lo (W a c / U b))), .int .i64 (okE (b == 0) (decide (W a c / U b ≤ 18446744073709551615)))]) ∧ Ext w0 w' := by
  by_cases hz : b = 0
  · subst hz
    exact rudiv_zero w0 a c _ _ _ w h
  · have hz2 : (b == 0) = false := by simpa using hz
    obtain ⟨w1, w2⟩ := W_bd a c
    obtain ⟨P, hP⟩ := Int.eq_ofNat_of_zero_le w1
    obtain ⟨u1, u2⟩ := U_bd b
    obtain ⟨B, hB⟩ := Int.eq_ofNat_of_zero_le u1
    have hdv := Lib.hid (fun w => rlong_calls w a c b ha hc hb hz P B hP hB w (Ext.refl w))
    have hlt : P / B < 340282366920938463463374607431768211456 := Nat.lt_of_le_of_lt (Nat.div_le_self _ _) (by omega)
    have hr := udiv_range (P / B) hlt
    rw [hP, hB, ediv_nat, emod_nat, hz2]
    have e3 : decide (((P / B : Nat) : Int) ≤ 18446744073709551615) = decide (P / B ≤ 18446744073709551615) := by rw [decide_eq_decide]; omega
    rw [e3]
    by_cases hq : P / B ≤ 18446744073709551615
    · have hd : decide (P / B ≤ 18446744073709551615) = true := decide_eq_true hq
      rw [hd] at hr ⊢
      rw [okR_near, okR_near, okE_near]
      exact rudiv_near w0 a c b _ _ _ hz2 hz (by rw [bne, hr]; rfl) hdv w h
    · have hd : decide (P / B ≤ 18446744073709551615) = false := decide_eq_false hq
      rw [hd] at hr ⊢
      rw [okR_far, okR_far, okE_far]
      exact rudiv_far w0 a c b _ _ _ hz2 hz (by rw [bne, hr]; rfl) hdv w h

theorem rneg_mk (n : Int) (W : World) : Calls Try.prog 61 #[.agg #[.int .i64 (lo n), .int .i64 (hi n)]] W fun e w' => e = .returned (.agg #[.int .i64 (lo (-n)), .int .i64 (hi (-n))]) ∧ Ext W w' := by
  have h := rneg_calls W (lo n) (hi n) (lo_i64 n) (hi_i64 n) W (Ext.refl W)
  rw [(neg_same n).1, (neg_same n).2] at h
  exact h
end Go.Proofs.Ytnclfopdgilgaaa
