/- The document's answers for layer 2: the signed divisions. Condition: cells are integers of 64 bits. -/
import Derived.Test.YtfehpfcpeiopiaaC2RefD
namespace Go.Proofs.Ytfehpfcpeiopiaa
open Go.RowKit
set_option linter.unusedVariables false

theorem fits_mk (q : Int) (h0 : -170141183460469231731687303715884105728 ≤ q) (h1 : q ≤ 170141183460469231731687303715884105728) (W : World) :
    Calls Try.prog 45 #[.agg #[.int .i64 (lo q), .int .i64 (hi q)]] W fun e w' => e = .returned (.bool (cel q)) ∧ Ext W w' := by
  have h := rfits_calls W (lo q) (hi q) (lo_i64 q) (hi_i64 q) W (Ext.refl W)
  rw [← fits_is (lo q) (hi q) (lo_i64 q) (hi_i64 q), in_range q h0 h1] at h
  exact h
theorem hi_neg (Q : Nat) (h : Q ≤ 170141183460469231731687303715884105728) : (hi (Q : Int) < 0 → Q = 170141183460469231731687303715884105728) ∧ (¬ hi (Q : Int) < 0 → Q ≤ 170141183460469231731687303715884105727) := by
  unfold hi wrap64; omega
theorem cel_big (Q : Nat) (h : Q = 170141183460469231731687303715884105728) : cel (Q : Int) = false ∧ cel (-(Q : Int)) = false := by
  unfold cel
  rw [decide_eq_false_iff_not, decide_eq_false_iff_not]
  omega
theorem lo_small (n : Nat) (h : n < 9223372036854775808) : lo (n : Int) = n ∧ wrap64 (-(n : Int)) = -(n : Int) := by
  refine ⟨wrap_id (by unfold I64; omega), wrap_id (by unfold I64; omega)⟩
theorem rtrunc_pp (w0 : World) (a c b : Int) (ha : I64 a) (hc : I64 c) (hb : I64 b) (P B : Nat) (hv : V a c = (P : Int)) (hB : b = (B : Int)) (hp : 0 < B) (hn : 0 ≤ c) (w : World) (h : Ext w0 w) :
    Calls Try.prog 34 #[.agg #[.int .i64 a, .int .i64 c], .int .i64 b] w fun e w' => e = .returned (.tuple #[.int .i64 (okR false (cel (((P / B : Nat) : Int))) (((P % B : Nat) : Int))), .int .i64 (okR false (cel (((P / B : Nat) : Int))) (((P / B : Nat) : Int))), .int .i64 (okE false (cel (((P / B : Nat) : Int))))]) ∧ Ext w0 w' := by
  have hz : b ≠ 0 := by omega
  have hz2 : (b == 0) = false := by simpa using hz
  have hbn : 0 ≤ b := by omega
  have hvb := V_bd (l := a) hc
  have hbl := i64_bd hb
  have hQ : P / B ≤ P := Nat.div_le_self _ _
  have hR : P % B < B := Nat.mod_lt _ hp
  have hW : W a c = P := by unfold W; unfold V at hv; have : U c = c := by unfold U; have := i64_bd hc; omega
                            rw [this]; exact hv
  have hU : U b = (B : Int) := by unfold U; omega
  have hlg := Lib.hid (fun w => rlong_calls w a c b ha hc hb hz P B hW hU w (Ext.refl w))
  obtain ⟨D, hD⟩ : ∃ d, d = P / B := ⟨_, rfl⟩
  obtain ⟨E, hE⟩ : ∃ d, d = P % B := ⟨_, rfl⟩
  rw [← hD] at hQ hlg ⊢
  rw [← hE] at hR hlg ⊢
  have hEB : E < 9223372036854775808 := by omega
  have hDB : D ≤ 170141183460469231731687303715884105728 := by omega
  clear hD hE hQ hR hU hW hv hB hvb hbl
  obtain ⟨l1, l2⟩ := lo_small E hEB
  obtain ⟨g1, g2⟩ := hi_neg D hDB
  have hft := fits_mk ((D : Int)) (by omega) (by omega)
  have hcb := (cel_big D · |>.1)
  have hlq : cel ((D : Int)) = true → lo ((D : Int)) = (D : Int) := fun h => wrap_id (cel_yes h)
  obtain ⟨q, hq'⟩ : ∃ q, q = (D : Int) := ⟨_, rfl⟩
  obtain ⟨L, hL⟩ : ∃ q, q = lo (E : Int) := ⟨_, rfl⟩
  obtain ⟨q0, hq0'⟩ : ∃ q, q = lo (D : Int) := ⟨_, rfl⟩
  obtain ⟨q1, hq1'⟩ : ∃ q, q = hi (D : Int) := ⟨_, rfl⟩
  rw [← hL] at hlg l1
  rw [← hq'] at hft hcb hlq ⊢
  rw [← hq0', ← hq1'] at hlg
  rw [← hq1'] at g1
  have hq2 := hq'
  rw [hq2, ← hq0', ← hq1'] at hft
  rw [← hq2] at hft
  have hlq2 : cel q = true → q0 = q := fun h => by rw [hq0', ← hq2]; exact hlq h
  by_cases hq : q1 < 0
  · have hcl : cel q = false := hcb (g1 hq)
    rw [hcl, okR_far, okR_far, okE_far]
    exact rtrunc_pp_b w0 a c b 0 0 0 L 0 q0 q1 0 0 hz2 hz hn hbn hlg hq w h
  · have hq0 : 0 ≤ q1 := Int.not_lt.1 hq
    by_cases hcl : cel q = true
    · have hft' := Lib.hid hft
      rw [hcl] at hft'
      have hlq3 := hlq2 hcl
      rw [hcl, okR_near, okR_near, okE_near]
      have e := rtrunc_pp_y w0 a c b 0 0 0 L 0 q0 q1 0 0 hz2 hz hn hbn hlg hq0 hft' w h
      rw [l1, hlq3] at e
      exact e
    · have hcl' : cel q = false := by simpa using hcl
      have hft' := Lib.hid hft
      rw [hcl'] at hft'
      rw [hcl', okR_far, okR_far, okE_far]
      exact rtrunc_pp_n w0 a c b 0 0 0 L 0 q0 q1 0 0 hz2 hz hn hbn hlg hq0 hft' w h
theorem rtrunc_pn (w0 : World) (a c b : Int) (ha : I64 a) (hc : I64 c) (hb : I64 b) (P B : Nat) (hv : V a c = (P : Int)) (hB : b = -(B : Int)) (hp : 0 < B) (hn : 0 ≤ c) (w : World) (h : Ext w0 w) :
    Calls Try.prog 34 #[.agg #[.int .i64 a, .int .i64 c], .int .i64 b] w fun e w' => e = .returned (.tuple #[.int .i64 (okR false (cel (-((P / B : Nat) : Int))) (((P % B : Nat) : Int))), .int .i64 (okR false (cel (-((P / B : Nat) : Int))) (-((P / B : Nat) : Int))), .int .i64 (okE false (cel (-((P / B : Nat) : Int))))]) ∧ Ext w0 w' := by
  have hz : b ≠ 0 := by omega
  have hz2 : (b == 0) = false := by simpa using hz
  have hbn : b < 0 := by omega
  have hvb := V_bd (l := a) hc
  have hbl := i64_bd hb
  have hQ : P / B ≤ P := Nat.div_le_self _ _
  have hR : P % B < B := Nat.mod_lt _ hp
  have hW : W a c = P := by unfold W; unfold V at hv; have : U c = c := by unfold U; have := i64_bd hc; omega
                            rw [this]; exact hv
  have hU : U (wrap64 (-b)) = (B : Int) := by unfold U wrap64; omega
  have hy0 : wrap64 (-b) ≠ 0 := by unfold wrap64; omega
  have hlg := Lib.hid (fun w => rlong_calls w a c (wrap64 (-b)) ha hc (i64_wrap _) hy0 P B hW hU w (Ext.refl w))
  obtain ⟨D, hD⟩ : ∃ d, d = P / B := ⟨_, rfl⟩
  obtain ⟨E, hE⟩ : ∃ d, d = P % B := ⟨_, rfl⟩
  rw [← hD] at hQ hlg ⊢
  rw [← hE] at hR hlg ⊢
  have hEB : E < 9223372036854775808 := by omega
  have hDB : D ≤ 170141183460469231731687303715884105728 := by omega
  clear hD hE hQ hR hU hW hv hB hvb hbl hy0
  obtain ⟨l1, l2⟩ := lo_small E hEB
  obtain ⟨g1, g2⟩ := hi_neg D hDB
  have hft := fits_mk (-(D : Int)) (by omega) (by omega)
  have hn2 := Lib.hid (fun w => rneg_mk (D : Int) w)
  have hcb := (cel_big D · |>.2)
  have hlq : cel (-(D : Int)) = true → lo (-(D : Int)) = -(D : Int) := fun h => wrap_id (cel_yes h)
  obtain ⟨q, hq'⟩ : ∃ q, q = -(D : Int) := ⟨_, rfl⟩
  obtain ⟨L, hL⟩ : ∃ q, q = lo (E : Int) := ⟨_, rfl⟩
  obtain ⟨q0, hq0'⟩ : ∃ q, q = lo (D : Int) := ⟨_, rfl⟩
  obtain ⟨q1, hq1'⟩ : ∃ q, q = hi (D : Int) := ⟨_, rfl⟩
  rw [← hL] at hlg l1
  rw [← hq'] at hft hcb hlq ⊢
  rw [← hq0', ← hq1'] at hlg hn2
  rw [← hq1'] at g1
  rw [← hq'] at hn2
  obtain ⟨n0, hn0'⟩ : ∃ n, n = lo q := ⟨_, rfl⟩
  obtain ⟨n1, hn1'⟩ : ∃ n, n = hi q := ⟨_, rfl⟩
  rw [← hn0', ← hn1'] at hn2 hft
  rw [← hn0'] at hlq
  obtain ⟨yb, hyb⟩ : ∃ q, q = wrap64 (-b) := ⟨_, rfl⟩
  rw [← hyb] at hlg
  by_cases hq : q1 < 0
  · have hcl : cel q = false := hcb (g1 hq)
    rw [hcl, okR_far, okR_far, okE_far]
    exact rtrunc_pn_b w0 a c b 0 0 yb L 0 q0 q1 n0 n1 hz2 hz hn hbn hyb.symm hlg hq w h
  · have hq0 : 0 ≤ q1 := Int.not_lt.1 hq
    by_cases hcl : cel q = true
    · have hft' := Lib.hid hft
      rw [hcl] at hft'
      have hlq3 := hlq hcl
      rw [hcl, okR_near, okR_near, okE_near]
      have e := rtrunc_pn_y w0 a c b 0 0 yb L 0 q0 q1 n0 n1 hz2 hz hn hbn hyb.symm hlg hq0 hn2 hft' w h
      rw [l1, hlq3] at e
      exact e
    · have hcl' : cel q = false := by simpa using hcl
      have hft' := Lib.hid hft
      rw [hcl'] at hft'
      rw [hcl', okR_far, okR_far, okE_far]
      exact rtrunc_pn_n w0 a c b 0 0 yb L 0 q0 q1 n0 n1 hz2 hz hn hbn hyb.symm hlg hq0 hn2 hft' w h
theorem rtrunc_np (w0 : World) (a c b : Int) (ha : I64 a) (hc : I64 c) (hb : I64 b) (P B : Nat) (hv : V a c = -(P : Int)) (hB : b = (B : Int)) (hp : 0 < B) (hn : c < 0) (w : World) (h : Ext w0 w) :
    Calls Try.prog 34 #[.agg #[.int .i64 a, .int .i64 c], .int .i64 b] w fun e w' => e = .returned (.tuple #[.int .i64 (okR false (cel (-((P / B : Nat) : Int))) (-((P % B : Nat) : Int))), .int .i64 (okR false (cel (-((P / B : Nat) : Int))) (-((P / B : Nat) : Int))), .int .i64 (okE false (cel (-((P / B : Nat) : Int))))]) ∧ Ext w0 w' := by
  have hz : b ≠ 0 := by omega
  have hz2 : (b == 0) = false := by simpa using hz
  have hbn : 0 ≤ b := by omega
  have hvb := V_bd (l := a) hc
  have hbl := i64_bd hb
  have hQ : P / B ≤ P := Nat.div_le_self _ _
  have hR : P % B < B := Nat.mod_lt _ hp
  have hng := Lib.hid (fun w => rneg_calls w a c ha hc w (Ext.refl w))
  rw [hv, Int.neg_neg] at hng
  have hW : W (lo (P : Int)) (hi (P : Int)) = P := W_mk _ (by omega) (by omega)
  have hU : U b = (B : Int) := by unfold U; omega
  have hlg := Lib.hid (fun w => rlong_calls w (lo (P : Int)) (hi (P : Int)) b (lo_i64 _) (hi_i64 _) hb hz P B hW hU w (Ext.refl w))
  obtain ⟨D, hD⟩ : ∃ d, d = P / B := ⟨_, rfl⟩
  obtain ⟨E, hE⟩ : ∃ d, d = P % B := ⟨_, rfl⟩
  rw [← hD] at hQ hlg ⊢
  rw [← hE] at hR hlg ⊢
  have hEB : E < 9223372036854775808 := by omega
  have hDB : D ≤ 170141183460469231731687303715884105728 := by omega
  clear hD hE hQ hR hU hW hv hB hvb hbl
  obtain ⟨l1, l2⟩ := lo_small E hEB
  obtain ⟨g1, g2⟩ := hi_neg D hDB
  have hft := fits_mk (-(D : Int)) (by omega) (by omega)
  have hn2 := Lib.hid (fun w => rneg_mk (D : Int) w)
  have hcb := (cel_big D · |>.2)
  have hlq : cel (-(D : Int)) = true → lo (-(D : Int)) = -(D : Int) := fun h => wrap_id (cel_yes h)
  obtain ⟨q, hq'⟩ : ∃ q, q = -(D : Int) := ⟨_, rfl⟩
  obtain ⟨L, hL⟩ : ∃ q, q = lo (E : Int) := ⟨_, rfl⟩
  obtain ⟨q0, hq0'⟩ : ∃ q, q = lo (D : Int) := ⟨_, rfl⟩
  obtain ⟨q1, hq1'⟩ : ∃ q, q = hi (D : Int) := ⟨_, rfl⟩
  rw [← hL] at hlg l1
  rw [← hq'] at hft hcb hlq ⊢
  rw [← hq0', ← hq1'] at hlg hn2
  rw [← hq1'] at g1
  rw [← hq'] at hn2
  obtain ⟨n0, hn0'⟩ : ∃ n, n = lo q := ⟨_, rfl⟩
  obtain ⟨n1, hn1'⟩ : ∃ n, n = hi q := ⟨_, rfl⟩
  rw [← hn0', ← hn1'] at hn2 hft
  rw [← hn0'] at hlq
  obtain ⟨x, hx⟩ : ∃ q, q = lo (P : Int) := ⟨_, rfl⟩
  obtain ⟨y, hy⟩ : ∃ q, q = hi (P : Int) := ⟨_, rfl⟩
  rw [← hx, ← hy] at hng hlg
  obtain ⟨M, hM⟩ : ∃ m, m = wrap64 (-L) := ⟨_, rfl⟩
  rw [← l1, ← hM] at l2
  by_cases hq : q1 < 0
  · have hcl : cel q = false := hcb (g1 hq)
    rw [hcl, okR_far, okR_far, okE_far]
    exact rtrunc_np_b w0 a c b x y 0 L M q0 q1 n0 n1 hz2 hz hn hbn hng hlg hq w h
  · have hq0 : 0 ≤ q1 := Int.not_lt.1 hq
    by_cases hcl : cel q = true
    · have hft' := Lib.hid hft
      rw [hcl] at hft'
      have hlq3 := hlq hcl
      rw [hcl, okR_near, okR_near, okE_near]
      have e := rtrunc_np_y w0 a c b x y 0 L M q0 q1 n0 n1 hz2 hz hn hbn hng hlg hq0 hn2 hM.symm hft' w h
      rw [l2, l1, hlq3] at e
      exact e
    · have hcl' : cel q = false := by simpa using hcl
      have hft' := Lib.hid hft
      rw [hcl'] at hft'
      rw [hcl', okR_far, okR_far, okE_far]
      exact rtrunc_np_n w0 a c b x y 0 L M q0 q1 n0 n1 hz2 hz hn hbn hng hlg hq0 hn2 hft' w h
theorem rtrunc_nn (w0 : World) (a c b : Int) (ha : I64 a) (hc : I64 c) (hb : I64 b) (P B : Nat) (hv : V a c = -(P : Int)) (hB : b = -(B : Int)) (hp : 0 < B) (hn : c < 0) (w : World) (h : Ext w0 w) :
    Calls Try.prog 34 #[.agg #[.int .i64 a, .int .i64 c], .int .i64 b] w fun e w' => e = .returned (.tuple #[.int .i64 (okR false (cel (((P / B : Nat) : Int))) (-((P % B : Nat) : Int))), .int .i64 (okR false (cel (((P / B : Nat) : Int))) (((P / B : Nat) : Int))), .int .i64 (okE false (cel (((P / B : Nat) : Int))))]) ∧ Ext w0 w' := by
  have hz : b ≠ 0 := by omega
  have hz2 : (b == 0) = false := by simpa using hz
  have hbn : b < 0 := by omega
  have hvb := V_bd (l := a) hc
  have hbl := i64_bd hb
  have hQ : P / B ≤ P := Nat.div_le_self _ _
  have hR : P % B < B := Nat.mod_lt _ hp
  have hng := Lib.hid (fun w => rneg_calls w a c ha hc w (Ext.refl w))
  rw [hv, Int.neg_neg] at hng
  have hW : W (lo (P : Int)) (hi (P : Int)) = P := W_mk _ (by omega) (by omega)
  have hU : U (wrap64 (-b)) = (B : Int) := by unfold U wrap64; omega
  have hy0 : wrap64 (-b) ≠ 0 := by unfold wrap64; omega
  have hlg := Lib.hid (fun w => rlong_calls w (lo (P : Int)) (hi (P : Int)) (wrap64 (-b)) (lo_i64 _) (hi_i64 _) (i64_wrap _) hy0 P B hW hU w (Ext.refl w))
  obtain ⟨D, hD⟩ : ∃ d, d = P / B := ⟨_, rfl⟩
  obtain ⟨E, hE⟩ : ∃ d, d = P % B := ⟨_, rfl⟩
  rw [← hD] at hQ hlg ⊢
  rw [← hE] at hR hlg ⊢
  have hEB : E < 9223372036854775808 := by omega
  have hDB : D ≤ 170141183460469231731687303715884105728 := by omega
  clear hD hE hQ hR hU hW hv hB hvb hbl hy0
  obtain ⟨l1, l2⟩ := lo_small E hEB
  obtain ⟨g1, g2⟩ := hi_neg D hDB
  have hft := fits_mk ((D : Int)) (by omega) (by omega)
  have hcb := (cel_big D · |>.1)
  have hlq : cel ((D : Int)) = true → lo ((D : Int)) = (D : Int) := fun h => wrap_id (cel_yes h)
  obtain ⟨q, hq'⟩ : ∃ q, q = (D : Int) := ⟨_, rfl⟩
  obtain ⟨L, hL⟩ : ∃ q, q = lo (E : Int) := ⟨_, rfl⟩
  obtain ⟨q0, hq0'⟩ : ∃ q, q = lo (D : Int) := ⟨_, rfl⟩
  obtain ⟨q1, hq1'⟩ : ∃ q, q = hi (D : Int) := ⟨_, rfl⟩
  rw [← hL] at hlg l1
  rw [← hq'] at hft hcb hlq ⊢
  rw [← hq0', ← hq1'] at hlg
  rw [← hq1'] at g1
  have hq2 := hq'
  rw [hq2, ← hq0', ← hq1'] at hft
  rw [← hq2] at hft
  have hlq2 : cel q = true → q0 = q := fun h => by rw [hq0', ← hq2]; exact hlq h
  obtain ⟨x, hx⟩ : ∃ q, q = lo (P : Int) := ⟨_, rfl⟩
  obtain ⟨y, hy⟩ : ∃ q, q = hi (P : Int) := ⟨_, rfl⟩
  rw [← hx, ← hy] at hng hlg
  obtain ⟨M, hM⟩ : ∃ m, m = wrap64 (-L) := ⟨_, rfl⟩
  rw [← l1, ← hM] at l2
  obtain ⟨yb, hyb⟩ : ∃ q, q = wrap64 (-b) := ⟨_, rfl⟩
  rw [← hyb] at hlg
  by_cases hq : q1 < 0
  · have hcl : cel q = false := hcb (g1 hq)
    rw [hcl, okR_far, okR_far, okE_far]
    exact rtrunc_nn_b w0 a c b x y yb L M q0 q1 0 0 hz2 hz hn hbn hng hyb.symm hlg hq w h
  · have hq0 : 0 ≤ q1 := Int.not_lt.1 hq
    by_cases hcl : cel q = true
    · have hft' := Lib.hid hft
      rw [hcl] at hft'
      have hlq3 := hlq2 hcl
      rw [hcl, okR_near, okR_near, okE_near]
      have e := rtrunc_nn_y w0 a c b x y yb L M q0 q1 0 0 hz2 hz hn hbn hng hyb.symm hlg hq0 hM.symm hft' w h
      rw [l2, l1, hlq3] at e
      exact e
    · have hcl' : cel q = false := by simpa using hcl
      have hft' := Lib.hid hft
      rw [hcl'] at hft'
      rw [hcl', okR_far, okR_far, okE_far]
      exact rtrunc_nn_n w0 a c b x y yb L M q0 q1 0 0 hz2 hz hn hbn hng hyb.symm hlg hq0 hft' w h

theorem rtrunc_calls (w0 : World) (a c b : Int) (ha : I64 a) (hc : I64 c) (hb : I64 b) (w : World) (h : Ext w0 w) :
    Calls Try.prog 34 #[.agg #[.int .i64 a, .int .i64 c], .int .i64 b] w fun e w' => e = .returned (.tuple #[.int .i64 (okR (b == 0) (cel ((V a c).tdiv b)) ((V a c).tmod b)), .int .i64 (okR (b == 0) (cel ((V a c).tdiv b)) ((V a c).tdiv b)), .int .i64 (okE (b == 0) (cel ((V a c).tdiv b)))]) ∧ Ext w0 w' := by
  by_cases hz : b = 0
  · subst hz
    exact rtrunc_zero w0 a c _ _ _ w h
  · have hz2 : (b == 0) = false := by simpa using hz
    rw [hz2]
    have hs := V_neg a c ha hc
    by_cases hn : c < 0
    · obtain ⟨P, hP⟩ := Int.eq_ofNat_of_zero_le (show 0 ≤ -V a c by omega)
      have hv : V a c = -(P : Int) := by omega
      by_cases hbn : b < 0
      · obtain ⟨B, hB⟩ := Int.eq_ofNat_of_zero_le (show 0 ≤ -b by omega)
        have hb2 : b = -(B : Int) := by omega
        have e1 : (V a c).tmod b = -((P % B : Nat) : Int) := by rw [hv, hb2, Int.neg_tmod, Int.tmod_neg]; rfl
        have e2 : (V a c).tdiv b = ((P / B : Nat) : Int) := by rw [hv, hb2, Int.neg_tdiv, Int.tdiv_neg, Int.neg_neg]; rfl
        rw [e1, e2]
        exact rtrunc_nn w0 a c b ha hc hb P B hv hb2 (by omega) hn w h
      · obtain ⟨B, hB⟩ := Int.eq_ofNat_of_zero_le (show 0 ≤ b by omega)
        have e1 : (V a c).tmod b = -((P % B : Nat) : Int) := by rw [hv, hB, Int.neg_tmod]; rfl
        have e2 : (V a c).tdiv b = -((P / B : Nat) : Int) := by rw [hv, hB, Int.neg_tdiv]; rfl
        rw [e1, e2]
        exact rtrunc_np w0 a c b ha hc hb P B hv hB (by omega) hn w h
    · obtain ⟨P, hP⟩ := Int.eq_ofNat_of_zero_le (show 0 ≤ V a c by omega)
      by_cases hbn : b < 0
      · obtain ⟨B, hB⟩ := Int.eq_ofNat_of_zero_le (show 0 ≤ -b by omega)
        have hb2 : b = -(B : Int) := by omega
        have e1 : (V a c).tmod b = ((P % B : Nat) : Int) := by rw [hP, hb2, Int.tmod_neg]; rfl
        have e2 : (V a c).tdiv b = -((P / B : Nat) : Int) := by rw [hP, hb2, Int.tdiv_neg]; rfl
        rw [e1, e2]
        exact rtrunc_pn w0 a c b ha hc hb P B hP hb2 (by omega) (by omega) w h
      · obtain ⟨B, hB⟩ := Int.eq_ofNat_of_zero_le (show 0 ≤ b by omega)
        have e1 : (V a c).tmod b = ((P % B : Nat) : Int) := by rw [hP, hB]; rfl
        have e2 : (V a c).tdiv b = ((P / B : Nat) : Int) := by rw [hP, hB]; rfl
        rw [e1, e2]
        exact rtrunc_pp w0 a c b ha hc hb P B hP hB (by omega) (by omega) w h
end Go.Proofs.Ytfehpfcpeiopiaa
