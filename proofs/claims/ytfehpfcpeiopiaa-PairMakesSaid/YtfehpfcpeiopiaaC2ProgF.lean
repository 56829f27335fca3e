/- Layer 2 (package pair): the division that rounds down, and the one without signs. Condition: cells are integers of 64 bits. -/
import Derived.Test.YtfehpfcpeiopiaaC2ProgE
namespace Go.Proofs.Ytfehpfcpeiopiaa
open Go.RowKit
set_option linter.unusedVariables false

/-- The quotient rounded down, and what is left then. -/
def FQ (v b : Int) : Int := if b < 0 then (-v) / (-b) else v / b
def FR (v b : Int) : Int := if b < 0 then -((-v) % (-b)) else v % b
theorem floor_one {v b q r : Int} (h : v = q * b + r) (hr : (0 ≤ r ∧ r < b) ∨ (b < r ∧ r ≤ 0)) : FQ v b = q ∧ FR v b = r := by
  unfold FQ FR
  rcases hr with ⟨h0, h1⟩ | ⟨h0, h1⟩
  · have hn : ¬ b < 0 := by omega
    rw [if_neg hn, if_neg hn]
    exact (Int.ediv_emod_unique (by omega)).2 ⟨by rw [Int.mul_comm]; omega, h0, h1⟩
  · have hn : b < 0 := by omega
    rw [if_pos hn, if_pos hn]
    have e := (Int.ediv_emod_unique (a := -v) (b := -b) (r := -r) (q := q) (by omega)).2 ⟨by rw [Int.neg_mul, Int.mul_comm]; omega, by omega, by omega⟩
    exact ⟨e.1, by omega⟩
theorem floor_same (v b : Int) (hb : b ≠ 0) (h : v.tmod b = 0 ∨ (v.tmod b < 0 ↔ b < 0)) : FQ v b = v.tdiv b ∧ FR v b = v.tmod b := by
  have e := Int.tdiv_mul_add_tmod v b
  have hl := tmod_bd v b hb
  refine floor_one e.symm ?_
  omega
theorem floor_less (v b : Int) (hb : b ≠ 0) (h0 : v.tmod b ≠ 0) (h : ¬ (v.tmod b < 0 ↔ b < 0)) : FQ v b = v.tdiv b + -1 ∧ FR v b = v.tmod b + b := by
  have e := Int.tdiv_mul_add_tmod v b
  have hl := tmod_bd v b hb
  refine floor_one (by rw [Int.add_mul]; omega) ?_
  omega
theorem floor_bd (v b : Int) (hv : -170141183460469231731687303715884105728 ≤ v ∧ v ≤ 170141183460469231731687303715884105727) (hb : b ≠ 0) (hb2 : I64 b) (h0 : v.tmod b ≠ 0) (h : ¬ (v.tmod b < 0 ↔ b < 0)) :
    (-170141183460469231731687303715884105728 ≤ v.tdiv b + -1 ∧ v.tdiv b + -1 ≤ 170141183460469231731687303715884105728) ∧ I64 (v.tmod b + b) := by
  have hl := tmod_bd v b hb
  have e := Int.tdiv_mul_add_tmod v b
  have hs := tmod_sign v b
  have h1 : (v.tdiv b).natAbs ≤ v.natAbs / 2 := by
    rw [Int.natAbs_tdiv]
    refine Nat.div_le_div_left ?_ (by omega)
    omega
  unfold I64 at *
  omega
theorem add_mk (n m : Int) (W : World) : Calls Try.prog 11 #[.agg #[.int .i64 (lo n), .int .i64 (hi n)], .agg #[.int .i64 (lo m), .int .i64 (hi m)]] W fun e w' => e = .returned (.agg #[.int .i64 (lo (n + m)), .int .i64 (hi (n + m))]) ∧ Ext W w' := by
  have h := add_calls W (lo n) (hi n) (lo m) (hi m) (lo_i64 n) (hi_i64 n) (lo_i64 m) (hi_i64 m) W (Ext.refl W)
  rw [(same_add2 n m).1, (same_add2 n m).2] at h
  exact h
theorem of_minus (W : World) : Calls Try.prog 19 #[.int .i64 (-1)] W fun e w' => e = .returned (.agg #[.int .i64 (lo (-1)), .int .i64 (hi (-1))]) ∧ Ext W w' :=
  of_calls W (-1) (by unfold I64; omega) W (Ext.refl W)

theorem udiv_range (Q : Nat) (h : Q < 340282366920938463463374607431768211456) : (hi (Q : Int) == 0) = decide (Q ≤ 18446744073709551615) := by
  rw [Bool.eq_iff_iff]
  simp only [beq_iff_eq, decide_eq_true_eq]
  unfold hi wrap64
  omega
theorem udiv_zero (w0 : World) (a c r q : Int) (k : Bool) (w : World) (h : Ext w0 w) :
    Calls Try.prog 29 #[.agg #[.int .i64 a, .int .i64 c], .int .i64 0] w fun e w' => e = .returned (.tuple #[.int .i64 (okR true k r), .int .i64 (okR true k q), .int .i64 (okE true k)]) ∧ Ext w0 w' := by
  go_enter Try.func29, Try.ntmps29
  go_wp2
  go_ret3
  exact ⟨rfl, h.cells _ _⟩
set_option maxRecDepth 100000 in
theorem udiv_near (w0 : World) (a c b x y : Int) (R B : Nat) (hz2 : (b == 0) = false) (hz3 : ¬ b = 0) (eb : IntKind.u64.wrap b = (B : Int)) (hr : (y == 0) = true)
    (hdv : RowKit.Hid (∀ w, Calls Try.prog 41 #[.agg #[.int .i64 a, .int .i64 c], .int .u64 (B : Int)] w fun e w' => e = .returned (.tuple #[.int .u64 (R : Int), .agg #[.int .i64 x, .int .i64 y]]) ∧ Ext w w')) (w : World) (h : Ext w0 w) :
    Calls Try.prog 29 #[.agg #[.int .i64 a, .int .i64 c], .int .i64 b] w fun e w' => e = .returned (.tuple #[.int .i64 (wrap64 (R : Int)), .int .i64 x, .int .i64 0]) ∧ Ext w0 w' := by
  go_enter Try.func29, Try.ntmps29
  go_wp2_with fail
  have hs0 := h.1.size
  refine (hdv.out _).mono ?_
  rintro e w1 ⟨rfl, hx1⟩
  have hX := (h.cells _ _).trans hx1
  have lt := hX.1.size
  clear h hx1 hdv
  go_wp2_with fail
  go_region
  go_wp2
  go_ret3
  exact ⟨rfl, (hX.cells _ _).drew⟩
set_option maxRecDepth 100000 in
theorem udiv_far (w0 : World) (a c b x y : Int) (R B : Nat) (hz2 : (b == 0) = false) (hz3 : ¬ b = 0) (eb : IntKind.u64.wrap b = (B : Int)) (hr : (y == 0) = false)
    (hdv : RowKit.Hid (∀ w, Calls Try.prog 41 #[.agg #[.int .i64 a, .int .i64 c], .int .u64 (B : Int)] w fun e w' => e = .returned (.tuple #[.int .u64 (R : Int), .agg #[.int .i64 x, .int .i64 y]]) ∧ Ext w w')) (w : World) (h : Ext w0 w) :
    Calls Try.prog 29 #[.agg #[.int .i64 a, .int .i64 c], .int .i64 b] w fun e w' => e = .returned (.tuple #[.int .i64 0, .int .i64 0, .int .i64 (-11)]) ∧ Ext w0 w' := by
  go_enter Try.func29, Try.ntmps29
  go_wp2_with fail
  have hs0 := h.1.size
  refine (hdv.out _).mono ?_
  rintro e w1 ⟨rfl, hx1⟩
  have hX := (h.cells _ _).trans hx1
  have lt := hX.1.size
  clear h hx1 hdv
  go_wp2_with fail
  go_ret3
  exact ⟨rfl, hX.cells _ _⟩
theorem okR_zero (k : Bool) (r : Int) : okR true k r = 0 := rfl
theorem okE_zero (k : Bool) : okE true k = -10 := rfl
theorem okR_near (r : Int) : okR false true r = r := rfl
theorem okE_near : okE false true = 0 := rfl
theorem okR_far (r : Int) : okR false false r = 0 := rfl
theorem okE_far : okE false false = -11 := rfl
theorem ediv_nat (P B : Nat) : (P : Int) / (B : Int) = ((P / B : Nat) : Int) := by rw [Int.natCast_ediv]
theorem emod_nat (P B : Nat) : (P : Int) % (B : Int) = ((P % B : Nat) : Int) := by rw [Int.natCast_emod]
theorem udiv_calls (w0 : World) (a c b : Int) (ha : I64 a) (hc : I64 c) (hb : I64 b) (w : World) (h : Ext w0 w) :
    Calls Try.prog 29 #[.agg #[.int .i64 a, .int .i64 c], .int .i64 b] w fun e w' => e = .returned (.tuple #[.int .i64 (okR (b == 0) (decide (W a c / U b ≤ 18446744073709551615)) (wrap64 (W a c % U b))), .int .i64 (okR (b == 0) (decide (W a c / U b ≤ 18446744073709551615)) (lo (W a c / U b))), .int .i64 (okE (b == 0) (decide (W a c / U b ≤ 18446744073709551615)))]) ∧ Ext w0 w' := by
  by_cases hz : b = 0
  · subst hz
    exact udiv_zero w0 a c _ _ _ w h
  · have hz2 : (b == 0) = false := by simpa using hz
    obtain ⟨w1, w2⟩ := W_bd a c
    obtain ⟨P, hP⟩ := Int.eq_ofNat_of_zero_le w1
    obtain ⟨u1, u2⟩ := U_bd b
    obtain ⟨B, hB⟩ := Int.eq_ofNat_of_zero_le u1
    have hB0 : 0 < B := by
      have : U b ≠ 0 := by unfold U; unfold I64 at hb; omega
      omega
    have eb : IntKind.u64.wrap b = (B : Int) := by rw [← hB]; exact u64_wrap b
    have hdv := Lib.hid (fun w => divide_calls w a c P B hP hB0 (by omega) w (Ext.refl w))
    have hlt : P / B < 340282366920938463463374607431768211456 := Nat.lt_of_le_of_lt (Nat.div_le_self _ _) (by omega)
    have hr := udiv_range (P / B) hlt
    rw [hP, hB, ediv_nat, emod_nat, hz2]
    have e3 : decide (((P / B : Nat) : Int) ≤ 18446744073709551615) = decide (P / B ≤ 18446744073709551615) := by rw [decide_eq_decide]; omega
    rw [e3]
    by_cases hq : P / B ≤ 18446744073709551615
    · have hd : decide (P / B ≤ 18446744073709551615) = true := decide_eq_true hq
      rw [hd] at hr ⊢
      rw [okR_near, okR_near, okE_near]
      exact udiv_near w0 a c b _ _ (P % B) B hz2 hz eb hr hdv w h
    · have hd : decide (P / B ≤ 18446744073709551615) = false := decide_eq_false hq
      rw [hd] at hr ⊢
      rw [okR_far, okR_far, okE_far]
      exact udiv_far w0 a c b _ _ (P % B) B hz2 hz eb hr hdv w h

set_option maxRecDepth 100000 in
theorem floor_z (w0 : World) (a c b q r : Int) (hz : b ≠ 0) (htr : ∀ w, Calls Try.prog 43 #[.agg #[.int .i64 a, .int .i64 c], .int .i64 b] w fun e w' => e = .returned (.tuple #[.int .i64 r, .agg #[.int .i64 (lo q), .int .i64 (hi q)]]) ∧ Ext w w') (h1 : r = 0)
    (hq0 : -170141183460469231731687303715884105728 ≤ q) (hq1 : q ≤ 170141183460469231731687303715884105728) (hrb : I64 (r)) (w : World) (h : Ext w0 w) :
    Calls Try.prog 31 #[.agg #[.int .i64 a, .int .i64 c], .int .i64 b] w fun e w' => e = .returned (.tuple #[.int .i64 (okR false (cel (q)) (r)), .int .i64 (okR false (cel (q)) (q)), .int .i64 (okE false (cel (q)))]) ∧ Ext w0 w' := by
  have HTR := Lib.hid htr
  clear htr
  have hz2 : (b == 0) = false := by simpa using hz
  have hz3 : ¬ b = 0 := hz
  subst h1
  have hin := Lib.hid (fun w => incells_calls w (0) (q) hq0 hq1 w (Ext.refl w))
  obtain ⟨q0, hq0'⟩ : ∃ n', n' = lo q := ⟨_, rfl⟩
  obtain ⟨q1, hq1'⟩ : ∃ n', n' = hi q := ⟨_, rfl⟩
  rw [← hq0', ← hq1'] at HTR hin
  obtain ⟨o1, ho1⟩ : ∃ q', q' = okR false (cel q) 0 := ⟨_, rfl⟩
  obtain ⟨o2, ho2⟩ : ∃ q', q' = okR false (cel q) q := ⟨_, rfl⟩
  obtain ⟨o3, ho3⟩ : ∃ q', q' = okE false (cel q) := ⟨_, rfl⟩
  rw [← ho1, ← ho2, ← ho3] at hin ⊢
  clear ho1 ho2 ho3 hq0' hq1' hq0 hq1 hrb hz
  go_enter Try.func31, Try.ntmps31
  go_wp2_with fail
  have hs0 := h.1.size
  refine (HTR.out _).mono ?_
  rintro e w1 ⟨rfl, hx1⟩
  have hX := (h.cells _ _).trans hx1
  have lt := hX.1.size
  clear h hx1 HTR
  go_wp2_with fail
  refine (hin.out _).mono ?_
  rintro e w2 ⟨rfl, hx2⟩
  have hX2 := (hX.cells #[.int .i64 q0, .int .i64 q1] 24).trans hx2
  go_wp2
  go_ret3
  exact ⟨rfl, hX2⟩
set_option maxRecDepth 100000 in
theorem floor_s (w0 : World) (a c b q r : Int) (hz : b ≠ 0) (htr : ∀ w, Calls Try.prog 43 #[.agg #[.int .i64 a, .int .i64 c], .int .i64 b] w fun e w' => e = .returned (.tuple #[.int .i64 r, .agg #[.int .i64 (lo q), .int .i64 (hi q)]]) ∧ Ext w w') (h1 : r < 0) (h2 : b < 0)
    (hq0 : -170141183460469231731687303715884105728 ≤ q) (hq1 : q ≤ 170141183460469231731687303715884105728) (hrb : I64 (r)) (w : World) (h : Ext w0 w) :
    Calls Try.prog 31 #[.agg #[.int .i64 a, .int .i64 c], .int .i64 b] w fun e w' => e = .returned (.tuple #[.int .i64 (okR false (cel (q)) (r)), .int .i64 (okR false (cel (q)) (q)), .int .i64 (okE false (cel (q)))]) ∧ Ext w0 w' := by
  have HTR := Lib.hid htr
  clear htr
  have hz2 : (b == 0) = false := by simpa using hz
  have hz3 : ¬ b = 0 := hz
  have r1 : (r != 0) = true := by simp; omega
  have r2 : decide (r < 0) = true := by simp; omega
  have r3 : decide (b < 0) = true := by simp; omega
  have r4 : ¬ r = 0 := by omega
  have hin := Lib.hid (fun w => incells_calls w (r) (q) hq0 hq1 w (Ext.refl w))
  obtain ⟨q0, hq0'⟩ : ∃ n', n' = lo q := ⟨_, rfl⟩
  obtain ⟨q1, hq1'⟩ : ∃ n', n' = hi q := ⟨_, rfl⟩
  rw [← hq0', ← hq1'] at HTR hin
  obtain ⟨o1, ho1⟩ : ∃ q', q' = okR false (cel q) r := ⟨_, rfl⟩
  obtain ⟨o2, ho2⟩ : ∃ q', q' = okR false (cel q) q := ⟨_, rfl⟩
  obtain ⟨o3, ho3⟩ : ∃ q', q' = okE false (cel q) := ⟨_, rfl⟩
  rw [← ho1, ← ho2, ← ho3] at hin ⊢
  clear ho1 ho2 ho3 hq0' hq1' hq0 hq1 hrb hz
  go_enter Try.func31, Try.ntmps31
  go_wp2_with fail
  have hs0 := h.1.size
  refine (HTR.out _).mono ?_
  rintro e w1 ⟨rfl, hx1⟩
  have hX := (h.cells _ _).trans hx1
  have lt := hX.1.size
  clear h hx1 HTR
  go_wp2_with fail
  refine (hin.out _).mono ?_
  rintro e w2 ⟨rfl, hx2⟩
  have hX2 := (hX.cells #[.int .i64 q0, .int .i64 q1] 24).trans hx2
  go_wp2
  go_ret3
  exact ⟨rfl, hX2⟩
set_option maxRecDepth 100000 in
theorem floor_p (w0 : World) (a c b q r : Int) (hz : b ≠ 0) (htr : ∀ w, Calls Try.prog 43 #[.agg #[.int .i64 a, .int .i64 c], .int .i64 b] w fun e w' => e = .returned (.tuple #[.int .i64 r, .agg #[.int .i64 (lo q), .int .i64 (hi q)]]) ∧ Ext w w') (h1 : 0 < r) (h2 : 0 < b)
    (hq0 : -170141183460469231731687303715884105728 ≤ q) (hq1 : q ≤ 170141183460469231731687303715884105728) (hrb : I64 (r)) (w : World) (h : Ext w0 w) :
    Calls Try.prog 31 #[.agg #[.int .i64 a, .int .i64 c], .int .i64 b] w fun e w' => e = .returned (.tuple #[.int .i64 (okR false (cel (q)) (r)), .int .i64 (okR false (cel (q)) (q)), .int .i64 (okE false (cel (q)))]) ∧ Ext w0 w' := by
  have HTR := Lib.hid htr
  clear htr
  have hz2 : (b == 0) = false := by simpa using hz
  have hz3 : ¬ b = 0 := hz
  have r1 : (r != 0) = true := by simp; omega
  have r2 : decide (r < 0) = false := by simp; omega
  have r3 : decide (b < 0) = false := by simp; omega
  have r4 : ¬ r = 0 := by omega
  have hin := Lib.hid (fun w => incells_calls w (r) (q) hq0 hq1 w (Ext.refl w))
  obtain ⟨q0, hq0'⟩ : ∃ n', n' = lo q := ⟨_, rfl⟩
  obtain ⟨q1, hq1'⟩ : ∃ n', n' = hi q := ⟨_, rfl⟩
  rw [← hq0', ← hq1'] at HTR hin
  obtain ⟨o1, ho1⟩ : ∃ q', q' = okR false (cel q) r := ⟨_, rfl⟩
  obtain ⟨o2, ho2⟩ : ∃ q', q' = okR false (cel q) q := ⟨_, rfl⟩
  obtain ⟨o3, ho3⟩ : ∃ q', q' = okE false (cel q) := ⟨_, rfl⟩
  rw [← ho1, ← ho2, ← ho3] at hin ⊢
  clear ho1 ho2 ho3 hq0' hq1' hq0 hq1 hrb hz
  go_enter Try.func31, Try.ntmps31
  go_wp2_with fail
  have hs0 := h.1.size
  refine (HTR.out _).mono ?_
  rintro e w1 ⟨rfl, hx1⟩
  have hX := (h.cells _ _).trans hx1
  have lt := hX.1.size
  clear h hx1 HTR
  go_wp2_with fail
  refine (hin.out _).mono ?_
  rintro e w2 ⟨rfl, hx2⟩
  have hX2 := (hX.cells #[.int .i64 q0, .int .i64 q1] 24).trans hx2
  go_wp2
  go_ret3
  exact ⟨rfl, hX2⟩
set_option maxRecDepth 100000 in
theorem floor_a (w0 : World) (a c b q r : Int) (hz : b ≠ 0) (htr : ∀ w, Calls Try.prog 43 #[.agg #[.int .i64 a, .int .i64 c], .int .i64 b] w fun e w' => e = .returned (.tuple #[.int .i64 r, .agg #[.int .i64 (lo q), .int .i64 (hi q)]]) ∧ Ext w w') (h1 : r < 0) (h2 : 0 < b)
    (hq0 : -170141183460469231731687303715884105728 ≤ q + -1) (hq1 : q + -1 ≤ 170141183460469231731687303715884105728) (hrb : I64 (r + b)) (w : World) (h : Ext w0 w) :
    Calls Try.prog 31 #[.agg #[.int .i64 a, .int .i64 c], .int .i64 b] w fun e w' => e = .returned (.tuple #[.int .i64 (okR false (cel (q + -1)) (r + b)), .int .i64 (okR false (cel (q + -1)) (q + -1)), .int .i64 (okE false (cel (q + -1)))]) ∧ Ext w0 w' := by
  have HTR := Lib.hid htr
  clear htr
  have hz2 : (b == 0) = false := by simpa using hz
  have hz3 : ¬ b = 0 := hz
  have r1 : (r != 0) = true := by simp; omega
  have r2 : decide (r < 0) = true := by simp; omega
  have r3 : decide (b < 0) = false := by simp; omega
  have r4 : ¬ r = 0 := by omega
  have hin := Lib.hid (fun w => incells_calls w (r + b) (q + -1) hq0 hq1 w (Ext.refl w))
  have er : wrap64 (r + b) = r + b := wrap_id hrb
  have had := Lib.hid (fun W => add_mk q (-1) W)
  have hof := Lib.hid of_minus
  obtain ⟨n, hn⟩ : ∃ n, n = q + -1 := ⟨_, rfl⟩
  rw [← hn] at had hin ⊢
  obtain ⟨t, ht⟩ : ∃ n, n = r + b := ⟨_, rfl⟩
  rw [← ht] at hin ⊢
  rw [← ht] at er
  rw [ht] at er
  obtain ⟨n0, hn0⟩ : ∃ n', n' = lo n := ⟨_, rfl⟩
  obtain ⟨n1, hn1⟩ : ∃ n', n' = hi n := ⟨_, rfl⟩
  rw [← hn0, ← hn1] at had hin
  have er2 : wrap64 (r + b) = t := by rw [er, ht]
  obtain ⟨m0, hm0⟩ : ∃ n', n' = lo (-1) := ⟨_, rfl⟩
  obtain ⟨m1, hm1⟩ : ∃ n', n' = hi (-1) := ⟨_, rfl⟩
  rw [← hm0, ← hm1] at had hof
  obtain ⟨q0, hq0'⟩ : ∃ n', n' = lo q := ⟨_, rfl⟩
  obtain ⟨q1, hq1'⟩ : ∃ n', n' = hi q := ⟨_, rfl⟩
  rw [← hq0', ← hq1'] at HTR had
  obtain ⟨o1, ho1⟩ : ∃ q', q' = okR false (cel n) t := ⟨_, rfl⟩
  obtain ⟨o2, ho2⟩ : ∃ q', q' = okR false (cel n) n := ⟨_, rfl⟩
  obtain ⟨o3, ho3⟩ : ∃ q', q' = okE false (cel n) := ⟨_, rfl⟩
  rw [← ho1, ← ho2, ← ho3] at hin ⊢
  clear ho1 ho2 ho3 hq0' hq1' hq0 hq1 hrb hz hn ht hn0 hn1 hm0 hm1 er
  go_enter Try.func31, Try.ntmps31
  go_wp2_with fail
  have hs0 := h.1.size
  refine (HTR.out _).mono ?_
  rintro e w1 ⟨rfl, hx1⟩
  have hX := (h.cells _ _).trans hx1
  have lt := hX.1.size
  clear h hx1 HTR
  go_upto_region 6 with fail
  have F0 := (Own.last (X := w1) (x := Value.int .i64 q0) (y := Value.int .i64 q1) (t := 24)).ext (Ext.drew (Ext.refl _))
  have hXd := (hX.cells #[.int .i64 q0, .int .i64 q1] 24).drew
  go_region_with (first | (go_at_call 19; refine (hof.out _).mono ?_; rintro e w2 ⟨rfl, hx0⟩; have F1 := F0.ext hx0; have hX1 := hXd.trans hx0; clear hx0; have kc0 := F1.c0; have kc1 := F1.c1) | (go_at_call 11; refine (had.out _).mono ?_; rintro e w3 ⟨rfl, hx0⟩; have F2 := F1.ext hx0; have hX2 := hX1.trans hx0; clear hx0; have mc0 := F2.c0; have mc1 := F2.c1; have mf0 := F2.f0; have mf1 := F2.f1; have mlt := F2.lt))
  all_goals
    replace F2 := F2.set (.int .i64 n0) (.int .i64 n1)
    replace hX2 := hX2.set2 (n := w1.heap.size) lt (.int .i64 n0) (.int .i64 n1)
    clear kc0 kc1 mc0 mc1 mf0 mf1
    have mc0 := F2.c0
    have mc1 := F2.c1
    go_wp2_with fail
    refine (hin.out _).mono ?_
    rintro e w4 ⟨rfl, hx4⟩
    have hX4 := hX2.trans hx4
    go_wp2
    go_ret3
    exact ⟨rfl, hX4⟩
set_option maxRecDepth 100000 in
theorem floor_b (w0 : World) (a c b q r : Int) (hz : b ≠ 0) (htr : ∀ w, Calls Try.prog 43 #[.agg #[.int .i64 a, .int .i64 c], .int .i64 b] w fun e w' => e = .returned (.tuple #[.int .i64 r, .agg #[.int .i64 (lo q), .int .i64 (hi q)]]) ∧ Ext w w') (h1 : 0 < r) (h2 : b < 0)
    (hq0 : -170141183460469231731687303715884105728 ≤ q + -1) (hq1 : q + -1 ≤ 170141183460469231731687303715884105728) (hrb : I64 (r + b)) (w : World) (h : Ext w0 w) :
    Calls Try.prog 31 #[.agg #[.int .i64 a, .int .i64 c], .int .i64 b] w fun e w' => e = .returned (.tuple #[.int .i64 (okR false (cel (q + -1)) (r + b)), .int .i64 (okR false (cel (q + -1)) (q + -1)), .int .i64 (okE false (cel (q + -1)))]) ∧ Ext w0 w' := by
  have HTR := Lib.hid htr
  clear htr
  have hz2 : (b == 0) = false := by simpa using hz
  have hz3 : ¬ b = 0 := hz
  have r1 : (r != 0) = true := by simp; omega
  have r2 : decide (r < 0) = false := by simp; omega
  have r3 : decide (b < 0) = true := by simp; omega
  have r4 : ¬ r = 0 := by omega
  have hin := Lib.hid (fun w => incells_calls w (r + b) (q + -1) hq0 hq1 w (Ext.refl w))
  have er : wrap64 (r + b) = r + b := wrap_id hrb
  have had := Lib.hid (fun W => add_mk q (-1) W)
  have hof := Lib.hid of_minus
  obtain ⟨n, hn⟩ : ∃ n, n = q + -1 := ⟨_, rfl⟩
  rw [← hn] at had hin ⊢
  obtain ⟨t, ht⟩ : ∃ n, n = r + b := ⟨_, rfl⟩
  rw [← ht] at hin ⊢
  rw [← ht] at er
  rw [ht] at er
  obtain ⟨n0, hn0⟩ : ∃ n', n' = lo n := ⟨_, rfl⟩
  obtain ⟨n1, hn1⟩ : ∃ n', n' = hi n := ⟨_, rfl⟩
  rw [← hn0, ← hn1] at had hin
  have er2 : wrap64 (r + b) = t := by rw [er, ht]
  obtain ⟨m0, hm0⟩ : ∃ n', n' = lo (-1) := ⟨_, rfl⟩
  obtain ⟨m1, hm1⟩ : ∃ n', n' = hi (-1) := ⟨_, rfl⟩
  rw [← hm0, ← hm1] at had hof
  obtain ⟨q0, hq0'⟩ : ∃ n', n' = lo q := ⟨_, rfl⟩
  obtain ⟨q1, hq1'⟩ : ∃ n', n' = hi q := ⟨_, rfl⟩
  rw [← hq0', ← hq1'] at HTR had
  obtain ⟨o1, ho1⟩ : ∃ q', q' = okR false (cel n) t := ⟨_, rfl⟩
  obtain ⟨o2, ho2⟩ : ∃ q', q' = okR false (cel n) n := ⟨_, rfl⟩
  obtain ⟨o3, ho3⟩ : ∃ q', q' = okE false (cel n) := ⟨_, rfl⟩
  rw [← ho1, ← ho2, ← ho3] at hin ⊢
  clear ho1 ho2 ho3 hq0' hq1' hq0 hq1 hrb hz hn ht hn0 hn1 hm0 hm1 er
  go_enter Try.func31, Try.ntmps31
  go_wp2_with fail
  have hs0 := h.1.size
  refine (HTR.out _).mono ?_
  rintro e w1 ⟨rfl, hx1⟩
  have hX := (h.cells _ _).trans hx1
  have lt := hX.1.size
  clear h hx1 HTR
  go_upto_region 6 with fail
  have F0 := (Own.last (X := w1) (x := Value.int .i64 q0) (y := Value.int .i64 q1) (t := 24)).ext (Ext.drew (Ext.refl _))
  have hXd := (hX.cells #[.int .i64 q0, .int .i64 q1] 24).drew
  go_region_with (first | (go_at_call 19; refine (hof.out _).mono ?_; rintro e w2 ⟨rfl, hx0⟩; have F1 := F0.ext hx0; have hX1 := hXd.trans hx0; clear hx0; have kc0 := F1.c0; have kc1 := F1.c1) | (go_at_call 11; refine (had.out _).mono ?_; rintro e w3 ⟨rfl, hx0⟩; have F2 := F1.ext hx0; have hX2 := hX1.trans hx0; clear hx0; have mc0 := F2.c0; have mc1 := F2.c1; have mf0 := F2.f0; have mf1 := F2.f1; have mlt := F2.lt))
  all_goals
    replace F2 := F2.set (.int .i64 n0) (.int .i64 n1)
    replace hX2 := hX2.set2 (n := w1.heap.size) lt (.int .i64 n0) (.int .i64 n1)
    clear kc0 kc1 mc0 mc1 mf0 mf1
    have mc0 := F2.c0
    have mc1 := F2.c1
    go_wp2_with fail
    refine (hin.out _).mono ?_
    rintro e w4 ⟨rfl, hx4⟩
    have hX4 := hX2.trans hx4
    go_wp2
    go_ret3
    exact ⟨rfl, hX4⟩
theorem floor_zero (w0 : World) (a c r q : Int) (k : Bool) (w : World) (h : Ext w0 w) :
    Calls Try.prog 31 #[.agg #[.int .i64 a, .int .i64 c], .int .i64 0] w fun e w' => e = .returned (.tuple #[.int .i64 (okR true k r), .int .i64 (okR true k q), .int .i64 (okE true k)]) ∧ Ext w0 w' := by
  go_enter Try.func31, Try.ntmps31
  go_wp2
  go_ret3
  exact ⟨rfl, h.cells _ _⟩
theorem floor_calls (w0 : World) (a c b : Int) (ha : I64 a) (hc : I64 c) (hb : I64 b) (w : World) (h : Ext w0 w) :
    Calls Try.prog 31 #[.agg #[.int .i64 a, .int .i64 c], .int .i64 b] w fun e w' => e = .returned (.tuple #[.int .i64 (okR (b == 0) (cel (FQ (V a c) b)) (FR (V a c) b)), .int .i64 (okR (b == 0) (cel (FQ (V a c) b)) (FQ (V a c) b)), .int .i64 (okE (b == 0) (cel (FQ (V a c) b)))]) ∧ Ext w0 w' := by
  by_cases hz : b = 0
  · subst hz
    exact floor_zero w0 a c _ _ _ w h
  · have hz2 : (b == 0) = false := by simpa using hz
    have htr := fun w => truncate_calls w a c b ha hc hb hz w (Ext.refl w)
    have hv := V_bd (l := a) hc
    obtain ⟨t0, t1⟩ := trunc_bd (V a c) b hv
    have hml := tmod_bd (V a c) b hz
    have hfl := floor_bd (V a c) b hv hz hb
    have hsm := floor_same (V a c) b hz
    have hle := floor_less (V a c) b hz
    rw [hz2]
    have hrI : I64 ((V a c).tmod b) := by unfold I64 at *; omega
    obtain ⟨q, hq⟩ : ∃ q, q = (V a c).tdiv b := ⟨_, rfl⟩
    obtain ⟨r, hr⟩ : ∃ q, q = (V a c).tmod b := ⟨_, rfl⟩
    rw [← hq] at htr t0 t1 hfl hsm hle
    rw [← hr] at htr hfl hsm hle hrI
    by_cases r0 : r = 0
    · rw [(hsm (.inl r0)).1, (hsm (.inl r0)).2]
      exact floor_z w0 a c b q r hz htr r0 t0 t1 hrI w h
    · by_cases rn : r < 0
      · by_cases bn : b < 0
        · rw [(hsm (.inr ⟨fun _ => bn, fun _ => rn⟩)).1, (hsm (.inr ⟨fun _ => bn, fun _ => rn⟩)).2]
          exact floor_s w0 a c b q r hz htr rn bn t0 t1 hrI w h
        · have hd : ¬ (r < 0 ↔ b < 0) := fun e => bn (e.1 rn)
          rw [(hle r0 hd).1, (hle r0 hd).2]
          exact floor_a w0 a c b q r hz htr rn (by omega) (hfl r0 hd).1.1 (hfl r0 hd).1.2 (hfl r0 hd).2 w h
      · by_cases bn : b < 0
        · have hd : ¬ (r < 0 ↔ b < 0) := fun e => rn (e.2 bn)
          rw [(hle r0 hd).1, (hle r0 hd).2]
          exact floor_b w0 a c b q r hz htr (by omega) bn (hfl r0 hd).1.1 (hfl r0 hd).1.2 (hfl r0 hd).2 w h
        · have hd : r < 0 ↔ b < 0 := ⟨fun e => absurd e rn, fun e => absurd e bn⟩
          rw [(hsm (.inr hd)).1, (hsm (.inr hd)).2]
          exact floor_p w0 a c b q r hz htr (by omega) (by omega) t0 t1 hrI w h
end Go.Proofs.Ytfehpfcpeiopiaa
