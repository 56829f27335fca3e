/- The document's answers for layer 2: the division without signs, and the one that rounds towards 0. Condition: cells are integers of 64 bits. -/
import Derived.Test.YtfehpfcpeiopiaaC2ProgF
namespace Go.Proofs.Ytfehpfcpeiopiaa
open Go.RowKit
set_option linter.unusedVariables false

theorem rudiv_zero (w0 : World) (a c r q : Int) (k : Bool) (w : World) (h : Ext w0 w) :
    Calls Try.prog 30 #[.agg #[.int .i64 a, .int .i64 c], .int .i64 0] w fun e w' => e = .returned (.tuple #[.int .i64 (okR true k r), .int .i64 (okR true k q), .int .i64 (okE true k)]) ∧ Ext w0 w' := by
  go_enter Try.func30, Try.ntmps30
  go_wp2
  go_ret3
  exact ⟨rfl, h.cells _ _⟩
set_option maxRecDepth 100000 in
theorem rudiv_near (w0 : World) (a c b x y L : Int) (hz2 : (b == 0) = false) (hz3 : ¬ b = 0) (hr : (y != 0) = false)
    (hdv : RowKit.Hid (∀ w, Calls Try.prog 42 #[.agg #[.int .i64 a, .int .i64 c], .int .i64 b] w fun e w' => e = .returned (.tuple #[.int .i64 L, .agg #[.int .i64 x, .int .i64 y]]) ∧ Ext w w')) (w : World) (h : Ext w0 w) :
    Calls Try.prog 30 #[.agg #[.int .i64 a, .int .i64 c], .int .i64 b] w fun e w' => e = .returned (.tuple #[.int .i64 L, .int .i64 x, .int .i64 0]) ∧ Ext w0 w' := by
  go_enter Try.func30, Try.ntmps30
  go_wp2_with fail
  have hs0 := h.1.size
  refine (hdv.out _).mono ?_
  rintro e w1 ⟨rfl, hx1⟩
  have hX := (h.cells _ _).trans hx1
  have lt := hX.1.size
  clear h hx1 hdv
  go_wp2_with fail
  go_region
  go_wp2
  go_ret3
  exact ⟨rfl, (hX.cells _ _).drew⟩
set_option maxRecDepth 100000 in
theorem rudiv_far (w0 : World) (a c b x y L : Int) (hz2 : (b == 0) = false) (hz3 : ¬ b = 0) (hr : (y != 0) = true)
    (hdv : RowKit.Hid (∀ w, Calls Try.prog 42 #[.agg #[.int .i64 a, .int .i64 c], .int .i64 b] w fun e w' => e = .returned (.tuple #[.int .i64 L, .agg #[.int .i64 x, .int .i64 y]]) ∧ Ext w w')) (w : World) (h : Ext w0 w) :
    Calls Try.prog 30 #[.agg #[.int .i64 a, .int .i64 c], .int .i64 b] w fun e w' => e = .returned (.tuple #[.int .i64 0, .int .i64 0, .int .i64 (-11)]) ∧ Ext w0 w' := by
  go_enter Try.func30, Try.ntmps30
  go_wp2_with fail
  have hs0 := h.1.size
  refine (hdv.out _).mono ?_
  rintro e w1 ⟨rfl, hx1⟩
  have hX := (h.cells _ _).trans hx1
  have lt := hX.1.size
  clear h hx1 hdv
  go_wp2_with fail
  go_ret3
  exact ⟨rfl, hX.cells _ _⟩
theorem rudiv_calls (w0 : World) (a c b : Int) (ha : I64 a) (hc : I64 c) (hb : I64 b) (w : World) (h : Ext w0 w) :
    Calls Try.prog 30 #[.agg #[.int .i64 a, .int .i64 c], .int .i64 b] w fun e w' => e = .returned (.tuple #[.int .i64 (okR (b == 0) (decide (W a c / U b ≤ 18446744073709551615)) (wrap64 (W a c % U b))), .int .i64 (okR (b == 0) (decide (W a c / U b ≤ 18446744073709551615)) (lo (W a c / U b))), .int .i64 (okE (b == 0) (decide (W a c / U b ≤ 18446744073709551615)))]) ∧ Ext w0 w' := by
  by_cases hz : b = 0
  · subst hz
    exact rudiv_zero w0 a c _ _ _ w h
  · have hz2 : (b == 0) = false := by simpa using hz
    obtain ⟨w1, w2⟩ := W_bd a c
    obtain ⟨P, hP⟩ := Int.eq_ofNat_of_zero_le w1
    obtain ⟨u1, u2⟩ := U_bd b
    obtain ⟨B, hB⟩ := Int.eq_ofNat_of_zero_le u1
    have hdv := Lib.hid (fun w => rlong_calls w a c b ha hc hb hz P B hP hB w (Ext.refl w))
    have hlt : P / B < 340282366920938463463374607431768211456 := Nat.lt_of_le_of_lt (Nat.div_le_self _ _) (by omega)
    have hr := udiv_range (P / B) hlt
    rw [hP, hB, ediv_nat, emod_nat, hz2]
    have e3 : decide (((P / B : Nat) : Int) ≤ 18446744073709551615) = decide (P / B ≤ 18446744073709551615) := by rw [decide_eq_decide]; omega
    rw [e3]
    by_cases hq : P / B ≤ 18446744073709551615
    · have hd : decide (P / B ≤ 18446744073709551615) = true := decide_eq_true hq
      rw [hd] at hr ⊢
      rw [okR_near, okR_near, okE_near]
      exact rudiv_near w0 a c b _ _ _ hz2 hz (by rw [bne, hr]; rfl) hdv w h
    · have hd : decide (P / B ≤ 18446744073709551615) = false := decide_eq_false hq
      rw [hd] at hr ⊢
      rw [okR_far, okR_far, okE_far]
      exact rudiv_far w0 a c b _ _ _ hz2 hz (by rw [bne, hr]; rfl) hdv w h

theorem rneg_mk (n : Int) (W : World) : Calls Try.prog 14 #[.agg #[.int .i64 (lo n), .int .i64 (hi n)]] W fun e w' => e = .returned (.agg #[.int .i64 (lo (-n)), .int .i64 (hi (-n))]) ∧ Ext W w' := by
  have h := rneg_calls W (lo n) (hi n) (lo_i64 n) (hi_i64 n) W (Ext.refl W)
  rw [(neg_same n).1, (neg_same n).2] at h
  exact h
theorem rtrunc_zero (w0 : World) (a c r q : Int) (k : Bool) (w : World) (h : Ext w0 w) :
    Calls Try.prog 34 #[.agg #[.int .i64 a, .int .i64 c], .int .i64 0] w fun e w' => e = .returned (.tuple #[.int .i64 (okR true k r), .int .i64 (okR true k q), .int .i64 (okE true k)]) ∧ Ext w0 w' := by
  go_enter Try.func34, Try.ntmps34
  go_wp2
  go_ret3
  exact ⟨rfl, h.cells _ _⟩
set_option maxRecDepth 100000 in
set_option maxHeartbeats 1000000 in
theorem rtrunc_pp_b (w0 : World) (a c b x y yb L M q0 q1 n0 n1 : Int) (hz2 : (b == 0) = false) (hz3 : ¬ b = 0) (hcn : 0 ≤ c) (hbn : 0 ≤ b) (hlg : RowKit.Hid (∀ W, Calls Try.prog 42 #[.agg #[.int .i64 a, .int .i64 c], .int .i64 b] W fun e w' => e = .returned (.tuple #[.int .i64 L, .agg #[.int .i64 q0, .int .i64 q1]]) ∧ Ext W w')) (hqn : q1 < 0) (w : World) (h : Ext w0 w) :
    Calls Try.prog 34 #[.agg #[.int .i64 a, .int .i64 c], .int .i64 b] w fun e w' => e = .returned (.tuple #[.int .i64 0, .int .i64 0, .int .i64 (-11)]) ∧ Ext w0 w' := by
  have dc : decide (c < 0) = false := by simp; omega
  have db : decide (b < 0) = false := by simp; omega
  have dq : decide (q1 < 0) = true := by simp; omega
  go_enter Try.func34, Try.ntmps34
  go_wp2_with fail
  have hs0 := h.1.size
  obtain ⟨o0, o1⟩ := own2 w (.int .i64 a) (.int .i64 c) (.int .i64 a) (.int .i64 c)
  have hX := (h.cells #[.int .i64 a, .int .i64 c] 24).cells #[.int .i64 a, .int .i64 c] 24
  clear h
  refine (hlg.out _).mono ?_
  rintro e w2 ⟨rfl, hx2⟩
  replace o0 := o0.ext hx2
  replace hX := hX.trans hx2
  clear hx2 hlg o1
  have lt := o0.lt
  have k1 := o0.c1
  have hs2 := hX.1.size
  go_wp2_with fail
  go_ret3
  exact ⟨rfl, hX.cells _ _⟩
set_option maxRecDepth 100000 in
set_option maxHeartbeats 1000000 in
theorem rtrunc_pp_y (w0 : World) (a c b x y yb L M q0 q1 n0 n1 : Int) (hz2 : (b == 0) = false) (hz3 : ¬ b = 0) (hcn : 0 ≤ c) (hbn : 0 ≤ b) (hlg : RowKit.Hid (∀ W, Calls Try.prog 42 #[.agg #[.int .i64 a, .int .i64 c], .int .i64 b] W fun e w' => e = .returned (.tuple #[.int .i64 L, .agg #[.int .i64 q0, .int .i64 q1]]) ∧ Ext W w')) (hqn : 0 ≤ q1) (hft : RowKit.Hid (∀ W, Calls Try.prog 45 #[.agg #[.int .i64 q0, .int .i64 q1]] W fun e w' => e = .returned (.bool true) ∧ Ext W w')) (w : World) (h : Ext w0 w) :
    Calls Try.prog 34 #[.agg #[.int .i64 a, .int .i64 c], .int .i64 b] w fun e w' => e = .returned (.tuple #[.int .i64 L, .int .i64 q0, .int .i64 0]) ∧ Ext w0 w' := by
  have dc : decide (c < 0) = false := by simp; omega
  have db : decide (b < 0) = false := by simp; omega
  have dq : decide (q1 < 0) = false := by simp; omega
  go_enter Try.func34, Try.ntmps34
  go_wp2_with fail
  have hs0 := h.1.size
  obtain ⟨o0, o1⟩ := own2 w (.int .i64 a) (.int .i64 c) (.int .i64 a) (.int .i64 c)
  have hX := (h.cells #[.int .i64 a, .int .i64 c] 24).cells #[.int .i64 a, .int .i64 c] 24
  clear h
  refine (hlg.out _).mono ?_
  rintro e w2 ⟨rfl, hx2⟩
  replace o0 := o0.ext hx2
  replace hX := hX.trans hx2
  clear hx2 hlg o1
  have lt := o0.lt
  have k1 := o0.c1
  have hs2 := hX.1.size
  go_wp2_with fail
  have o3 := Own.last (X := w2) (x := Value.int .i64 q0) (y := Value.int .i64 q1) (t := 24)
  replace hX := hX.cells #[.int .i64 q0, .int .i64 q1] 24
  refine (hft.out _).mono ?_
  rintro e w4 ⟨rfl, hx4⟩
  replace o3 := o3.ext hx4
  replace hX := hX.trans hx4
  clear hx4 hft
  have g0 := o3.c0
  go_wp2_with fail
  go_region
  go_wp2
  go_ret3
  exact ⟨rfl, hX.drew⟩
set_option maxRecDepth 100000 in
set_option maxHeartbeats 1000000 in
theorem rtrunc_pp_n (w0 : World) (a c b x y yb L M q0 q1 n0 n1 : Int) (hz2 : (b == 0) = false) (hz3 : ¬ b = 0) (hcn : 0 ≤ c) (hbn : 0 ≤ b) (hlg : RowKit.Hid (∀ W, Calls Try.prog 42 #[.agg #[.int .i64 a, .int .i64 c], .int .i64 b] W fun e w' => e = .returned (.tuple #[.int .i64 L, .agg #[.int .i64 q0, .int .i64 q1]]) ∧ Ext W w')) (hqn : 0 ≤ q1) (hft : RowKit.Hid (∀ W, Calls Try.prog 45 #[.agg #[.int .i64 q0, .int .i64 q1]] W fun e w' => e = .returned (.bool false) ∧ Ext W w')) (w : World) (h : Ext w0 w) :
    Calls Try.prog 34 #[.agg #[.int .i64 a, .int .i64 c], .int .i64 b] w fun e w' => e = .returned (.tuple #[.int .i64 0, .int .i64 0, .int .i64 (-11)]) ∧ Ext w0 w' := by
  have dc : decide (c < 0) = false := by simp; omega
  have db : decide (b < 0) = false := by simp; omega
  have dq : decide (q1 < 0) = false := by simp; omega
  go_enter Try.func34, Try.ntmps34
  go_wp2_with fail
  have hs0 := h.1.size
  obtain ⟨o0, o1⟩ := own2 w (.int .i64 a) (.int .i64 c) (.int .i64 a) (.int .i64 c)
  have hX := (h.cells #[.int .i64 a, .int .i64 c] 24).cells #[.int .i64 a, .int .i64 c] 24
  clear h
  refine (hlg.out _).mono ?_
  rintro e w2 ⟨rfl, hx2⟩
  replace o0 := o0.ext hx2
  replace hX := hX.trans hx2
  clear hx2 hlg o1
  have lt := o0.lt
  have k1 := o0.c1
  have hs2 := hX.1.size
  go_wp2_with fail
  have o3 := Own.last (X := w2) (x := Value.int .i64 q0) (y := Value.int .i64 q1) (t := 24)
  replace hX := hX.cells #[.int .i64 q0, .int .i64 q1] 24
  refine (hft.out _).mono ?_
  rintro e w4 ⟨rfl, hx4⟩
  replace o3 := o3.ext hx4
  replace hX := hX.trans hx4
  clear hx4 hft
  have g0 := o3.c0
  go_wp2_with fail
  go_ret3
  exact ⟨rfl, hX⟩
set_option maxRecDepth 100000 in
set_option maxHeartbeats 1000000 in
theorem rtrunc_pn_b (w0 : World) (a c b x y yb L M q0 q1 n0 n1 : Int) (hz2 : (b == 0) = false) (hz3 : ¬ b = 0) (hcn : 0 ≤ c) (hbn : b < 0) (eyb : wrap64 (-b) = yb) (hlg : RowKit.Hid (∀ W, Calls Try.prog 42 #[.agg #[.int .i64 a, .int .i64 c], .int .i64 yb] W fun e w' => e = .returned (.tuple #[.int .i64 L, .agg #[.int .i64 q0, .int .i64 q1]]) ∧ Ext W w')) (hqn : q1 < 0) (w : World) (h : Ext w0 w) :
    Calls Try.prog 34 #[.agg #[.int .i64 a, .int .i64 c], .int .i64 b] w fun e w' => e = .returned (.tuple #[.int .i64 0, .int .i64 0, .int .i64 (-11)]) ∧ Ext w0 w' := by
  have dc : decide (c < 0) = false := by simp; omega
  have db : decide (b < 0) = true := by simp; omega
  have dq : decide (q1 < 0) = true := by simp; omega
  go_enter Try.func34, Try.ntmps34
  go_wp2_with fail
  have hs0 := h.1.size
  obtain ⟨o0, o1⟩ := own2 w (.int .i64 a) (.int .i64 c) (.int .i64 a) (.int .i64 c)
  have hX := (h.cells #[.int .i64 a, .int .i64 c] 24).cells #[.int .i64 a, .int .i64 c] 24
  clear h
  refine (hlg.out _).mono ?_
  rintro e w2 ⟨rfl, hx2⟩
  replace o0 := o0.ext hx2
  replace hX := hX.trans hx2
  clear hx2 hlg o1
  have lt := o0.lt
  have k1 := o0.c1
  have hs2 := hX.1.size
  go_wp2_with fail
  go_ret3
  exact ⟨rfl, hX.cells _ _⟩
set_option maxRecDepth 100000 in
set_option maxHeartbeats 1000000 in
theorem rtrunc_pn_y (w0 : World) (a c b x y yb L M q0 q1 n0 n1 : Int) (hz2 : (b == 0) = false) (hz3 : ¬ b = 0) (hcn : 0 ≤ c) (hbn : b < 0) (eyb : wrap64 (-b) = yb) (hlg : RowKit.Hid (∀ W, Calls Try.prog 42 #[.agg #[.int .i64 a, .int .i64 c], .int .i64 yb] W fun e w' => e = .returned (.tuple #[.int .i64 L, .agg #[.int .i64 q0, .int .i64 q1]]) ∧ Ext W w')) (hqn : 0 ≤ q1) (hn2 : RowKit.Hid (∀ W, Calls Try.prog 14 #[.agg #[.int .i64 q0, .int .i64 q1]] W fun e w' => e = .returned (.agg #[.int .i64 n0, .int .i64 n1]) ∧ Ext W w')) (hft : RowKit.Hid (∀ W, Calls Try.prog 45 #[.agg #[.int .i64 n0, .int .i64 n1]] W fun e w' => e = .returned (.bool true) ∧ Ext W w')) (w : World) (h : Ext w0 w) :
    Calls Try.prog 34 #[.agg #[.int .i64 a, .int .i64 c], .int .i64 b] w fun e w' => e = .returned (.tuple #[.int .i64 L, .int .i64 n0, .int .i64 0]) ∧ Ext w0 w' := by
  have dc : decide (c < 0) = false := by simp; omega
  have db : decide (b < 0) = true := by simp; omega
  have dq : decide (q1 < 0) = false := by simp; omega
  go_enter Try.func34, Try.ntmps34
  go_wp2_with fail
  have hs0 := h.1.size
  obtain ⟨o0, o1⟩ := own2 w (.int .i64 a) (.int .i64 c) (.int .i64 a) (.int .i64 c)
  have hX := (h.cells #[.int .i64 a, .int .i64 c] 24).cells #[.int .i64 a, .int .i64 c] 24
  clear h
  refine (hlg.out _).mono ?_
  rintro e w2 ⟨rfl, hx2⟩
  replace o0 := o0.ext hx2
  replace hX := hX.trans hx2
  clear hx2 hlg o1
  have lt := o0.lt
  have k1 := o0.c1
  have hs2 := hX.1.size
  go_wp2_with fail
  replace o0 := o0.alloc #[.int .i64 q0, .int .i64 q1] 24
  have o3 := Own.last (X := w2) (x := Value.int .i64 q0) (y := Value.int .i64 q1) (t := 24)
  replace hX := hX.cells #[.int .i64 q0, .int .i64 q1] 24
  refine (hn2.out _).mono ?_
  rintro e w3 ⟨rfl, hx3⟩
  replace o0 := o0.ext hx3
  replace o3 := o3.ext hx3
  replace hX := hX.trans hx3
  clear hx3 hn2 k1
  have k1 := o0.c1
  have g0 := o3.c0
  have g1 := o3.c1
  have f0 := o3.f0
  have f1 := o3.f1
  have lt3 := o3.lt
  go_wp2_with fail
  replace o0 := o0.other (b' := w2.heap.size) (by omega) (.int .i64 n0) (.int .i64 n1)
  replace o3 := o3.set (.int .i64 n0) (.int .i64 n1)
  replace hX := hX.set2 (n := w2.heap.size) (by omega) (.int .i64 n0) (.int .i64 n1)
  clear g0 g1 f0 f1 lt3 k1
  refine (hft.out _).mono ?_
  rintro e w4 ⟨rfl, hx4⟩
  replace o3 := o3.ext hx4
  replace hX := hX.trans hx4
  clear hx4 hft
  have g0 := o3.c0
  go_wp2_with fail
  go_region
  go_wp2
  go_ret3
  exact ⟨rfl, hX.drew⟩
set_option maxRecDepth 100000 in
set_option maxHeartbeats 1000000 in
theorem rtrunc_pn_n (w0 : World) (a c b x y yb L M q0 q1 n0 n1 : Int) (hz2 : (b == 0) = false) (hz3 : ¬ b = 0) (hcn : 0 ≤ c) (hbn : b < 0) (eyb : wrap64 (-b) = yb) (hlg : RowKit.Hid (∀ W, Calls Try.prog 42 #[.agg #[.int .i64 a, .int .i64 c], .int .i64 yb] W fun e w' => e = .returned (.tuple #[.int .i64 L, .agg #[.int .i64 q0, .int .i64 q1]]) ∧ Ext W w')) (hqn : 0 ≤ q1) (hn2 : RowKit.Hid (∀ W, Calls Try.prog 14 #[.agg #[.int .i64 q0, .int .i64 q1]] W fun e w' => e = .returned (.agg #[.int .i64 n0, .int .i64 n1]) ∧ Ext W w')) (hft : RowKit.Hid (∀ W, Calls Try.prog 45 #[.agg #[.int .i64 n0, .int .i64 n1]] W fun e w' => e = .returned (.bool false) ∧ Ext W w')) (w : World) (h : Ext w0 w) :
    Calls Try.prog 34 #[.agg #[.int .i64 a, .int .i64 c], .int .i64 b] w fun e w' => e = .returned (.tuple #[.int .i64 0, .int .i64 0, .int .i64 (-11)]) ∧ Ext w0 w' := by
  have dc : decide (c < 0) = false := by simp; omega
  have db : decide (b < 0) = true := by simp; omega
  have dq : decide (q1 < 0) = false := by simp; omega
  go_enter Try.func34, Try.ntmps34
  go_wp2_with fail
  have hs0 := h.1.size
  obtain ⟨o0, o1⟩ := own2 w (.int .i64 a) (.int .i64 c) (.int .i64 a) (.int .i64 c)
  have hX := (h.cells #[.int .i64 a, .int .i64 c] 24).cells #[.int .i64 a, .int .i64 c] 24
  clear h
  refine (hlg.out _).mono ?_
  rintro e w2 ⟨rfl, hx2⟩
  replace o0 := o0.ext hx2
  replace hX := hX.trans hx2
  clear hx2 hlg o1
  have lt := o0.lt
  have k1 := o0.c1
  have hs2 := hX.1.size
  go_wp2_with fail
  replace o0 := o0.alloc #[.int .i64 q0, .int .i64 q1] 24
  have o3 := Own.last (X := w2) (x := Value.int .i64 q0) (y := Value.int .i64 q1) (t := 24)
  replace hX := hX.cells #[.int .i64 q0, .int .i64 q1] 24
  refine (hn2.out _).mono ?_
  rintro e w3 ⟨rfl, hx3⟩
  replace o0 := o0.ext hx3
  replace o3 := o3.ext hx3
  replace hX := hX.trans hx3
  clear hx3 hn2 k1
  have k1 := o0.c1
  have g0 := o3.c0
  have g1 := o3.c1
  have f0 := o3.f0
  have f1 := o3.f1
  have lt3 := o3.lt
  go_wp2_with fail
  replace o0 := o0.other (b' := w2.heap.size) (by omega) (.int .i64 n0) (.int .i64 n1)
  replace o3 := o3.set (.int .i64 n0) (.int .i64 n1)
  replace hX := hX.set2 (n := w2.heap.size) (by omega) (.int .i64 n0) (.int .i64 n1)
  clear g0 g1 f0 f1 lt3 k1
  refine (hft.out _).mono ?_
  rintro e w4 ⟨rfl, hx4⟩
  replace o3 := o3.ext hx4
  replace hX := hX.trans hx4
  clear hx4 hft
  have g0 := o3.c0
  go_wp2_with fail
  go_ret3
  exact ⟨rfl, hX⟩
set_option maxRecDepth 100000 in
set_option maxHeartbeats 1000000 in
theorem rtrunc_np_b (w0 : World) (a c b x y yb L M q0 q1 n0 n1 : Int) (hz2 : (b == 0) = false) (hz3 : ¬ b = 0) (hcn : c < 0) (hbn : 0 ≤ b) (hng : RowKit.Hid (∀ W, Calls Try.prog 14 #[.agg #[.int .i64 a, .int .i64 c]] W fun e w' => e = .returned (.agg #[.int .i64 x, .int .i64 y]) ∧ Ext W w')) (hlg : RowKit.Hid (∀ W, Calls Try.prog 42 #[.agg #[.int .i64 x, .int .i64 y], .int .i64 b] W fun e w' => e = .returned (.tuple #[.int .i64 L, .agg #[.int .i64 q0, .int .i64 q1]]) ∧ Ext W w')) (hqn : q1 < 0) (w : World) (h : Ext w0 w) :
    Calls Try.prog 34 #[.agg #[.int .i64 a, .int .i64 c], .int .i64 b] w fun e w' => e = .returned (.tuple #[.int .i64 0, .int .i64 0, .int .i64 (-11)]) ∧ Ext w0 w' := by
  have dc : decide (c < 0) = true := by simp; omega
  have db : decide (b < 0) = false := by simp; omega
  have dq : decide (q1 < 0) = true := by simp; omega
  go_enter Try.func34, Try.ntmps34
  go_wp2_with fail
  have hs0 := h.1.size
  obtain ⟨o0, o1⟩ := own2 w (.int .i64 a) (.int .i64 c) (.int .i64 a) (.int .i64 c)
  have hX := (h.cells #[.int .i64 a, .int .i64 c] 24).cells #[.int .i64 a, .int .i64 c] 24
  clear h
  refine (hng.out _).mono ?_
  rintro e w1 ⟨rfl, hx1⟩
  replace o0 := o0.ext hx1
  replace o1 := o1.ext hx1
  replace hX := hX.trans hx1
  clear hx1 hng
  have g0 := o1.c0
  have g1 := o1.c1
  have f0 := o1.f0
  have f1 := o1.f1
  have lt := o1.lt
  go_wp2_with fail
  replace o0 := o0.other (b' := w.heap.size + 1) (by omega) (.int .i64 x) (.int .i64 y)
  replace o1 := o1.set (.int .i64 x) (.int .i64 y)
  replace hX := hX.set2 (n := w.heap.size + 1) (by omega) (.int .i64 x) (.int .i64 y)
  clear g0 g1 f0 f1 lt
  refine (hlg.out _).mono ?_
  rintro e w2 ⟨rfl, hx2⟩
  replace o0 := o0.ext hx2
  replace hX := hX.trans hx2
  clear hx2 hlg o1
  have lt := o0.lt
  have k1 := o0.c1
  have hs2 := hX.1.size
  go_wp2_with fail
  go_ret3
  exact ⟨rfl, hX.cells _ _⟩
set_option maxRecDepth 100000 in
set_option maxHeartbeats 1000000 in
theorem rtrunc_np_y (w0 : World) (a c b x y yb L M q0 q1 n0 n1 : Int) (hz2 : (b == 0) = false) (hz3 : ¬ b = 0) (hcn : c < 0) (hbn : 0 ≤ b) (hng : RowKit.Hid (∀ W, Calls Try.prog 14 #[.agg #[.int .i64 a, .int .i64 c]] W fun e w' => e = .returned (.agg #[.int .i64 x, .int .i64 y]) ∧ Ext W w')) (hlg : RowKit.Hid (∀ W, Calls Try.prog 42 #[.agg #[.int .i64 x, .int .i64 y], .int .i64 b] W fun e w' => e = .returned (.tuple #[.int .i64 L, .agg #[.int .i64 q0, .int .i64 q1]]) ∧ Ext W w')) (hqn : 0 ≤ q1) (hn2 : RowKit.Hid (∀ W, Calls Try.prog 14 #[.agg #[.int .i64 q0, .int .i64 q1]] W fun e w' => e = .returned (.agg #[.int .i64 n0, .int .i64 n1]) ∧ Ext W w')) (eL : wrap64 (-L) = M) (hft : RowKit.Hid (∀ W, Calls Try.prog 45 #[.agg #[.int .i64 n0, .int .i64 n1]] W fun e w' => e = .returned (.bool true) ∧ Ext W w')) (w : World) (h : Ext w0 w) :
    Calls Try.prog 34 #[.agg #[.int .i64 a, .int .i64 c], .int .i64 b] w fun e w' => e = .returned (.tuple #[.int .i64 M, .int .i64 n0, .int .i64 0]) ∧ Ext w0 w' := by
  have dc : decide (c < 0) = true := by simp; omega
  have db : decide (b < 0) = false := by simp; omega
  have dq : decide (q1 < 0) = false := by simp; omega
  go_enter Try.func34, Try.ntmps34
  go_wp2_with fail
  have hs0 := h.1.size
  obtain ⟨o0, o1⟩ := own2 w (.int .i64 a) (.int .i64 c) (.int .i64 a) (.int .i64 c)
  have hX := (h.cells #[.int .i64 a, .int .i64 c] 24).cells #[.int .i64 a, .int .i64 c] 24
  clear h
  refine (hng.out _).mono ?_
  rintro e w1 ⟨rfl, hx1⟩
  replace o0 := o0.ext hx1
  replace o1 := o1.ext hx1
  replace hX := hX.trans hx1
  clear hx1 hng
  have g0 := o1.c0
  have g1 := o1.c1
  have f0 := o1.f0
  have f1 := o1.f1
  have lt := o1.lt
  go_wp2_with fail
  replace o0 := o0.other (b' := w.heap.size + 1) (by omega) (.int .i64 x) (.int .i64 y)
  replace o1 := o1.set (.int .i64 x) (.int .i64 y)
  replace hX := hX.set2 (n := w.heap.size + 1) (by omega) (.int .i64 x) (.int .i64 y)
  clear g0 g1 f0 f1 lt
  refine (hlg.out _).mono ?_
  rintro e w2 ⟨rfl, hx2⟩
  replace o0 := o0.ext hx2
  replace hX := hX.trans hx2
  clear hx2 hlg o1
  have lt := o0.lt
  have k1 := o0.c1
  have hs2 := hX.1.size
  go_wp2_with fail
  replace o0 := o0.alloc #[.int .i64 q0, .int .i64 q1] 24
  have o3 := Own.last (X := w2) (x := Value.int .i64 q0) (y := Value.int .i64 q1) (t := 24)
  replace hX := hX.cells #[.int .i64 q0, .int .i64 q1] 24
  refine (hn2.out _).mono ?_
  rintro e w3 ⟨rfl, hx3⟩
  replace o0 := o0.ext hx3
  replace o3 := o3.ext hx3
  replace hX := hX.trans hx3
  clear hx3 hn2 k1
  have k1 := o0.c1
  have g0 := o3.c0
  have g1 := o3.c1
  have f0 := o3.f0
  have f1 := o3.f1
  have lt3 := o3.lt
  go_wp2_with fail
  replace o0 := o0.other (b' := w2.heap.size) (by omega) (.int .i64 n0) (.int .i64 n1)
  replace o3 := o3.set (.int .i64 n0) (.int .i64 n1)
  replace hX := hX.set2 (n := w2.heap.size) (by omega) (.int .i64 n0) (.int .i64 n1)
  clear g0 g1 f0 f1 lt3 k1
  refine (hft.out _).mono ?_
  rintro e w4 ⟨rfl, hx4⟩
  replace o3 := o3.ext hx4
  replace hX := hX.trans hx4
  clear hx4 hft
  have g0 := o3.c0
  go_wp2_with fail
  go_region
  go_wp2
  go_ret3
  exact ⟨rfl, hX.drew⟩
set_option maxRecDepth 100000 in
set_option maxHeartbeats 1000000 in
theorem rtrunc_np_n (w0 : World) (a c b x y yb L M q0 q1 n0 n1 : Int) (hz2 : (b == 0) = false) (hz3 : ¬ b = 0) (hcn : c < 0) (hbn : 0 ≤ b) (hng : RowKit.Hid (∀ W, Calls Try.prog 14 #[.agg #[.int .i64 a, .int .i64 c]] W fun e w' => e = .returned (.agg #[.int .i64 x, .int .i64 y]) ∧ Ext W w')) (hlg : RowKit.Hid (∀ W, Calls Try.prog 42 #[.agg #[.int .i64 x, .int .i64 y], .int .i64 b] W fun e w' => e = .returned (.tuple #[.int .i64 L, .agg #[.int .i64 q0, .int .i64 q1]]) ∧ Ext W w')) (hqn : 0 ≤ q1) (hn2 : RowKit.Hid (∀ W, Calls Try.prog 14 #[.agg #[.int .i64 q0, .int .i64 q1]] W fun e w' => e = .returned (.agg #[.int .i64 n0, .int .i64 n1]) ∧ Ext W w')) (hft : RowKit.Hid (∀ W, Calls Try.prog 45 #[.agg #[.int .i64 n0, .int .i64 n1]] W fun e w' => e = .returned (.bool false) ∧ Ext W w')) (w : World) (h : Ext w0 w) :
    Calls Try.prog 34 #[.agg #[.int .i64 a, .int .i64 c], .int .i64 b] w fun e w' => e = .returned (.tuple #[.int .i64 0, .int .i64 0, .int .i64 (-11)]) ∧ Ext w0 w' := by
  have dc : decide (c < 0) = true := by simp; omega
  have db : decide (b < 0) = false := by simp; omega
  have dq : decide (q1 < 0) = false := by simp; omega
  go_enter Try.func34, Try.ntmps34
  go_wp2_with fail
  have hs0 := h.1.size
  obtain ⟨o0, o1⟩ := own2 w (.int .i64 a) (.int .i64 c) (.int .i64 a) (.int .i64 c)
  have hX := (h.cells #[.int .i64 a, .int .i64 c] 24).cells #[.int .i64 a, .int .i64 c] 24
  clear h
  refine (hng.out _).mono ?_
  rintro e w1 ⟨rfl, hx1⟩
  replace o0 := o0.ext hx1
  replace o1 := o1.ext hx1
  replace hX := hX.trans hx1
  clear hx1 hng
  have g0 := o1.c0
  have g1 := o1.c1
  have f0 := o1.f0
  have f1 := o1.f1
  have lt := o1.lt
  go_wp2_with fail
  replace o0 := o0.other (b' := w.heap.size + 1) (by omega) (.int .i64 x) (.int .i64 y)
  replace o1 := o1.set (.int .i64 x) (.int .i64 y)
  replace hX := hX.set2 (n := w.heap.size + 1) (by omega) (.int .i64 x) (.int .i64 y)
  clear g0 g1 f0 f1 lt
  refine (hlg.out _).mono ?_
  rintro e w2 ⟨rfl, hx2⟩
  replace o0 := o0.ext hx2
  replace hX := hX.trans hx2
  clear hx2 hlg o1
  have lt := o0.lt
  have k1 := o0.c1
  have hs2 := hX.1.size
  go_wp2_with fail
  replace o0 := o0.alloc #[.int .i64 q0, .int .i64 q1] 24
  have o3 := Own.last (X := w2) (x := Value.int .i64 q0) (y := Value.int .i64 q1) (t := 24)
  replace hX := hX.cells #[.int .i64 q0, .int .i64 q1] 24
  refine (hn2.out _).mono ?_
  rintro e w3 ⟨rfl, hx3⟩
  replace o0 := o0.ext hx3
  replace o3 := o3.ext hx3
  replace hX := hX.trans hx3
  clear hx3 hn2 k1
  have k1 := o0.c1
  have g0 := o3.c0
  have g1 := o3.c1
  have f0 := o3.f0
  have f1 := o3.f1
  have lt3 := o3.lt
  go_wp2_with fail
  replace o0 := o0.other (b' := w2.heap.size) (by omega) (.int .i64 n0) (.int .i64 n1)
  replace o3 := o3.set (.int .i64 n0) (.int .i64 n1)
  replace hX := hX.set2 (n := w2.heap.size) (by omega) (.int .i64 n0) (.int .i64 n1)
  clear g0 g1 f0 f1 lt3 k1
  refine (hft.out _).mono ?_
  rintro e w4 ⟨rfl, hx4⟩
  replace o3 := o3.ext hx4
  replace hX := hX.trans hx4
  clear hx4 hft
  have g0 := o3.c0
  go_wp2_with fail
  go_ret3
  exact ⟨rfl, hX⟩
set_option maxRecDepth 100000 in
set_option maxHeartbeats 1000000 in
theorem rtrunc_nn_b (w0 : World) (a c b x y yb L M q0 q1 n0 n1 : Int) (hz2 : (b == 0) = false) (hz3 : ¬ b = 0) (hcn : c < 0) (hbn : b < 0) (hng : RowKit.Hid (∀ W, Calls Try.prog 14 #[.agg #[.int .i64 a, .int .i64 c]] W fun e w' => e = .returned (.agg #[.int .i64 x, .int .i64 y]) ∧ Ext W w')) (eyb : wrap64 (-b) = yb) (hlg : RowKit.Hid (∀ W, Calls Try.prog 42 #[.agg #[.int .i64 x, .int .i64 y], .int .i64 yb] W fun e w' => e = .returned (.tuple #[.int .i64 L, .agg #[.int .i64 q0, .int .i64 q1]]) ∧ Ext W w')) (hqn : q1 < 0) (w : World) (h : Ext w0 w) :
    Calls Try.prog 34 #[.agg #[.int .i64 a, .int .i64 c], .int .i64 b] w fun e w' => e = .returned (.tuple #[.int .i64 0, .int .i64 0, .int .i64 (-11)]) ∧ Ext w0 w' := by
  have dc : decide (c < 0) = true := by simp; omega
  have db : decide (b < 0) = true := by simp; omega
  have dq : decide (q1 < 0) = true := by simp; omega
  go_enter Try.func34, Try.ntmps34
  go_wp2_with fail
  have hs0 := h.1.size
  obtain ⟨o0, o1⟩ := own2 w (.int .i64 a) (.int .i64 c) (.int .i64 a) (.int .i64 c)
  have hX := (h.cells #[.int .i64 a, .int .i64 c] 24).cells #[.int .i64 a, .int .i64 c] 24
  clear h
  refine (hng.out _).mono ?_
  rintro e w1 ⟨rfl, hx1⟩
  replace o0 := o0.ext hx1
  replace o1 := o1.ext hx1
  replace hX := hX.trans hx1
  clear hx1 hng
  have g0 := o1.c0
  have g1 := o1.c1
  have f0 := o1.f0
  have f1 := o1.f1
  have lt := o1.lt
  go_wp2_with fail
  replace o0 := o0.other (b' := w.heap.size + 1) (by omega) (.int .i64 x) (.int .i64 y)
  replace o1 := o1.set (.int .i64 x) (.int .i64 y)
  replace hX := hX.set2 (n := w.heap.size + 1) (by omega) (.int .i64 x) (.int .i64 y)
  clear g0 g1 f0 f1 lt
  refine (hlg.out _).mono ?_
  rintro e w2 ⟨rfl, hx2⟩
  replace o0 := o0.ext hx2
  replace hX := hX.trans hx2
  clear hx2 hlg o1
  have lt := o0.lt
  have k1 := o0.c1
  have hs2 := hX.1.size
  go_wp2_with fail
  go_ret3
  exact ⟨rfl, hX.cells _ _⟩
set_option maxRecDepth 100000 in
set_option maxHeartbeats 1000000 in
theorem rtrunc_nn_y (w0 : World) (a c b x y yb L M q0 q1 n0 n1 : Int) (hz2 : (b == 0) = false) (hz3 : ¬ b = 0) (hcn : c < 0) (hbn : b < 0) (hng : RowKit.Hid (∀ W, Calls Try.prog 14 #[.agg #[.int .i64 a, .int .i64 c]] W fun e w' => e = .returned (.agg #[.int .i64 x, .int .i64 y]) ∧ Ext W w')) (eyb : wrap64 (-b) = yb) (hlg : RowKit.Hid (∀ W, Calls Try.prog 42 #[.agg #[.int .i64 x, .int .i64 y], .int .i64 yb] W fun e w' => e = .returned (.tuple #[.int .i64 L, .agg #[.int .i64 q0, .int .i64 q1]]) ∧ Ext W w')) (hqn : 0 ≤ q1) (eL : wrap64 (-L) = M) (hft : RowKit.Hid (∀ W, Calls Try.prog 45 #[.agg #[.int .i64 q0, .int .i64 q1]] W fun e w' => e = .returned (.bool true) ∧ Ext W w')) (w : World) (h : Ext w0 w) :
    Calls Try.prog 34 #[.agg #[.int .i64 a, .int .i64 c], .int .i64 b] w fun e w' => e = .returned (.tuple #[.int .i64 M, .int .i64 q0, .int .i64 0]) ∧ Ext w0 w' := by
  have dc : decide (c < 0) = true := by simp; omega
  have db : decide (b < 0) = true := by simp; omega
  have dq : decide (q1 < 0) = false := by simp; omega
  go_enter Try.func34, Try.ntmps34
  go_wp2_with fail
  have hs0 := h.1.size
  obtain ⟨o0, o1⟩ := own2 w (.int .i64 a) (.int .i64 c) (.int .i64 a) (.int .i64 c)
  have hX := (h.cells #[.int .i64 a, .int .i64 c] 24).cells #[.int .i64 a, .int .i64 c] 24
  clear h
  refine (hng.out _).mono ?_
  rintro e w1 ⟨rfl, hx1⟩
  replace o0 := o0.ext hx1
  replace o1 := o1.ext hx1
  replace hX := hX.trans hx1
  clear hx1 hng
  have g0 := o1.c0
  have g1 := o1.c1
  have f0 := o1.f0
  have f1 := o1.f1
  have lt := o1.lt
  go_wp2_with fail
  replace o0 := o0.other (b' := w.heap.size + 1) (by omega) (.int .i64 x) (.int .i64 y)
  replace o1 := o1.set (.int .i64 x) (.int .i64 y)
  replace hX := hX.set2 (n := w.heap.size + 1) (by omega) (.int .i64 x) (.int .i64 y)
  clear g0 g1 f0 f1 lt
  refine (hlg.out _).mono ?_
  rintro e w2 ⟨rfl, hx2⟩
  replace o0 := o0.ext hx2
  replace hX := hX.trans hx2
  clear hx2 hlg o1
  have lt := o0.lt
  have k1 := o0.c1
  have hs2 := hX.1.size
  go_wp2_with fail
  have o3 := Own.last (X := w2) (x := Value.int .i64 q0) (y := Value.int .i64 q1) (t := 24)
  replace hX := hX.cells #[.int .i64 q0, .int .i64 q1] 24
  refine (hft.out _).mono ?_
  rintro e w4 ⟨rfl, hx4⟩
  replace o3 := o3.ext hx4
  replace hX := hX.trans hx4
  clear hx4 hft
  have g0 := o3.c0
  go_wp2_with fail
  go_region
  go_wp2
  go_ret3
  exact ⟨rfl, hX.drew⟩
set_option maxRecDepth 100000 in
set_option maxHeartbeats 1000000 in
theorem rtrunc_nn_n (w0 : World) (a c b x y yb L M q0 q1 n0 n1 : Int) (hz2 : (b == 0) = false) (hz3 : ¬ b = 0) (hcn : c < 0) (hbn : b < 0) (hng : RowKit.Hid (∀ W, Calls Try.prog 14 #[.agg #[.int .i64 a, .int .i64 c]] W fun e w' => e = .returned (.agg #[.int .i64 x, .int .i64 y]) ∧ Ext W w')) (eyb : wrap64 (-b) = yb) (hlg : RowKit.Hid (∀ W, Calls Try.prog 42 #[.agg #[.int .i64 x, .int .i64 y], .int .i64 yb] W fun e w' => e = .returned (.tuple #[.int .i64 L, .agg #[.int .i64 q0, .int .i64 q1]]) ∧ Ext W w')) (hqn : 0 ≤ q1) (hft : RowKit.Hid (∀ W, Calls Try.prog 45 #[.agg #[.int .i64 q0, .int .i64 q1]] W fun e w' => e = .returned (.bool false) ∧ Ext W w')) (w : World) (h : Ext w0 w) :
    Calls Try.prog 34 #[.agg #[.int .i64 a, .int .i64 c], .int .i64 b] w fun e w' => e = .returned (.tuple #[.int .i64 0, .int .i64 0, .int .i64 (-11)]) ∧ Ext w0 w' := by
  have dc : decide (c < 0) = true := by simp; omega
  have db : decide (b < 0) = true := by simp; omega
  have dq : decide (q1 < 0) = false := by simp; omega
  go_enter Try.func34, Try.ntmps34
  go_wp2_with fail
  have hs0 := h.1.size
  obtain ⟨o0, o1⟩ := own2 w (.int .i64 a) (.int .i64 c) (.int .i64 a) (.int .i64 c)
  have hX := (h.cells #[.int .i64 a, .int .i64 c] 24).cells #[.int .i64 a, .int .i64 c] 24
  clear h
  refine (hng.out _).mono ?_
  rintro e w1 ⟨rfl, hx1⟩
  replace o0 := o0.ext hx1
  replace o1 := o1.ext hx1
  replace hX := hX.trans hx1
  clear hx1 hng
  have g0 := o1.c0
  have g1 := o1.c1
  have f0 := o1.f0
  have f1 := o1.f1
  have lt := o1.lt
  go_wp2_with fail
  replace o0 := o0.other (b' := w.heap.size + 1) (by omega) (.int .i64 x) (.int .i64 y)
  replace o1 := o1.set (.int .i64 x) (.int .i64 y)
  replace hX := hX.set2 (n := w.heap.size + 1) (by omega) (.int .i64 x) (.int .i64 y)
  clear g0 g1 f0 f1 lt
  refine (hlg.out _).mono ?_
  rintro e w2 ⟨rfl, hx2⟩
  replace o0 := o0.ext hx2
  replace hX := hX.trans hx2
  clear hx2 hlg o1
  have lt := o0.lt
  have k1 := o0.c1
  have hs2 := hX.1.size
  go_wp2_with fail
  have o3 := Own.last (X := w2) (x := Value.int .i64 q0) (y := Value.int .i64 q1) (t := 24)
  replace hX := hX.cells #[.int .i64 q0, .int .i64 q1] 24
  refine (hft.out _).mono ?_
  rintro e w4 ⟨rfl, hx4⟩
  replace o3 := o3.ext hx4
  replace hX := hX.trans hx4
  clear hx4 hft
  have g0 := o3.c0
  go_wp2_with fail
  go_ret3
  exact ⟨rfl, hX⟩
end Go.Proofs.Ytfehpfcpeiopiaa
