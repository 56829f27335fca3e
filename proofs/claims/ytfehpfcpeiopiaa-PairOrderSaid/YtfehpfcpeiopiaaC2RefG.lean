/- The document's answers for layer 2: the division that rounds down. Condition: cells are integers of 64 bits. -/
import Derived.Test.YtfehpfcpeiopiaaC2RefF
namespace Go.Proofs.Ytfehpfcpeiopiaa
open Go.RowKit
set_option linter.unusedVariables false

theorem V_minus : V (-1) (-1) = -1 := by unfold V U; omega
theorem radd_minus (n : Int) (W : World) : Calls Try.prog 12 #[.agg #[.int .i64 (lo n), .int .i64 (hi n)], .agg #[.int .i64 (-1), .int .i64 (-1)]] W fun e w' => e = .returned (.agg #[.int .i64 (lo (n + -1)), .int .i64 (hi (n + -1))]) ∧ Ext W w' := by
  have h := radd_mk n (-1) (-1) (by unfold I64; omega) (by unfold I64; omega) W
  rw [V_minus] at h
  exact h
theorem W_big (P : Nat) (h : P < 170141183460469231731687303715884105728) : W (lo (P : Int)) (hi (P : Int)) = P := W_mk _ (by omega) (by omega)
theorem V_hi (v : Int) (h0 : -170141183460469231731687303715884105728 ≤ v) (h1 : v < 170141183460469231731687303715884105728) : (v < 0 → hi v < 0) ∧ (0 ≤ v → 0 ≤ hi v) := by
  unfold hi wrap64; omega
theorem pos_W {a c : Int} {P : Nat} (hc : I64 c) (hn : 0 ≤ c) (hv : V a c = P) : W a c = P := by
  unfold W; unfold V at hv
  have : U c = c := by unfold U; have := i64_bd hc; omega
  rw [this]; exact hv
theorem least_is (a c : Int) (ha : I64 a) (hc : I64 c) : (a == 0 && c == -9223372036854775808) = decide (V a c = -170141183460469231731687303715884105728) := by
  rw [Bool.eq_iff_iff]
  simp only [Bool.and_eq_true, beq_iff_eq, decide_eq_true_eq]
  unfold V U; unfold I64 at *
  omega
theorem fl_yb (b : Int) (hb : I64 b) (B : Nat) (hB : b = -(B : Int)) (hp : 0 < B) : U (wrap64 (-b)) = (B : Int) ∧ wrap64 (-b) ≠ 0 := by
  unfold U wrap64; unfold I64 at hb; omega
theorem fl_M (b : Int) (B E : Nat) (hB : b = -(B : Int)) (hB2 : B ≤ 9223372036854775808) (hE : E < B) (hE0 : E ≠ 0) : wrap64 (wrap64 (-b) - (E : Int)) = (B : Int) - (E : Int) ∧ wrap64 (-((B : Int) - (E : Int))) = -((B : Int) - (E : Int)) := by
  unfold wrap64; omega
theorem fl_M2 (b : Int) (B E : Nat) (hB : b = (B : Int)) (hB2 : B < 9223372036854775808) (hE : E < B) : wrap64 (b - (E : Int)) = (B : Int) - (E : Int) := by
  unfold wrap64; omega
theorem lz_of {E : Nat} {L : Int} (h : L = (E : Int)) : (E = 0 → (L != 0) = false) ∧ (E ≠ 0 → (L != 0) = true) := by
  subst h; constructor <;> intro h <;> simp <;> omega
theorem rfl_p_p (w0 : World) (a c b : Int) (ha : I64 a) (hc : I64 c) (hb : I64 b) (P B D E : Nat) (hv : V a c = (P : Int)) (hB : b = (B : Int)) (hp : 0 < B) (hD : P / B = D) (hE : P % B = E) (hP : P < 170141183460469231731687303715884105728)
    (HL : (a == 0 && c == -9223372036854775808) = false) (w : World) (h : Ext w0 w) :
    Calls Try.prog 32 #[.agg #[.int .i64 a, .int .i64 c], .int .i64 b] w fun e w' => e = .returned (.tuple #[.int .i64 (okR false (cel ((D : Int))) ((E : Int))), .int .i64 (okR false (cel ((D : Int))) ((D : Int))), .int .i64 (okE false (cel ((D : Int))))]) ∧ Ext w0 w' := by
  have hz : b ≠ 0 := by clear hP; omega
  have hz2 : (b == 0) = false := by simpa using hz
  have hbn : 0 ≤ b := by clear hP; omega
  have hD1 : D ≤ P := by rw [← hD]; exact Nat.div_le_self _ _
  have hD2 : D < 170141183460469231731687303715884105728 := Nat.lt_of_le_of_lt hD1 hP
  have hE1 : E < B := by rw [← hE]; exact Nat.mod_lt _ hp
  have hB2 : B ≤ 9223372036854775808 := by have := i64_bd hb; clear hP hD2; omega
  have hE2 : E < 9223372036854775808 := by clear hP hD2; omega
  obtain ⟨l1, l2⟩ := lo_small E hE2
  have hsg := V_neg a c ha hc
  have hY : 0 ≤ c := by clear hP hD2; omega
  have hW := pos_W hc hY hv
  have hU : U b = (B : Int) := by unfold U; have := i64_bd hb; clear hP hD2; omega
  have hlg := Lib.hid (fun w => rlong_calls w a c b ha hc hb hz P B hW hU w (Ext.refl w))
  rw [hD, hE] at hlg
  have hft := fits_mk ((D : Int)) (by omega) (by omega)
  have hlq : cel ((D : Int)) = true → lo ((D : Int)) = (D : Int) := fun h => wrap_id (cel_yes h)
  clear hP hD2 hD1 hsg hB2 hE2 hW hU hv hD hE hE1
  obtain ⟨L, hL0⟩ : ∃ q, q = lo (E : Int) := ⟨_, rfl⟩
  rw [← hL0] at hlg l1
  obtain ⟨q0, hq0'⟩ : ∃ q, q = lo (D : Int) := ⟨_, rfl⟩
  obtain ⟨q1, hq1'⟩ : ∃ q, q = hi (D : Int) := ⟨_, rfl⟩
  rw [← hq0', ← hq1'] at hlg hft
  rw [← hq0'] at hlq
  have hlz := lz_of l1
  rw [← l1]
  obtain ⟨q, hq'⟩ : ∃ q, q = (D : Int) := ⟨_, rfl⟩
  rw [← hq'] at hft hlq ⊢
  by_cases hcl : cel q = true
  · have hft' := Lib.hid hft
    rw [hcl] at hft'
    have hlq3 := hlq hcl
    rw [hcl, okR_near, okR_near, okE_near]
    have e := rfloor_p_p_y w0 a c b 0 0 0 0 0 L q0 q1 0 0 0 0 0 0 hz2 hz hbn HL hY hlg hft' w h
    rw [hlq3] at e
    exact e
  · have hcl' : cel q = false := by simpa using hcl
    have hft' := Lib.hid hft
    rw [hcl'] at hft'
    rw [hcl', okR_far, okR_far, okE_far]
    exact rfloor_p_p_n w0 a c b 0 0 0 0 0 L q0 q1 0 0 0 0 0 0 hz2 hz hbn HL hY hlg hft' w h
theorem rfl_p_z (w0 : World) (a c b : Int) (ha : I64 a) (hc : I64 c) (hb : I64 b) (P B D E : Nat) (hv : V a c = -(P : Int)) (hB : b = (B : Int)) (hp : 0 < B) (hD : P / B = D) (hE : P % B = E) (hP : P < 170141183460469231731687303715884105728)
    (HL : (a == 0 && c == -9223372036854775808) = false) (hP0 : 0 < P) (hE0 : E = 0) (w : World) (h : Ext w0 w) :
    Calls Try.prog 32 #[.agg #[.int .i64 a, .int .i64 c], .int .i64 b] w fun e w' => e = .returned (.tuple #[.int .i64 (okR false (cel (-(D : Int))) ((E : Int))), .int .i64 (okR false (cel (-(D : Int))) (-(D : Int))), .int .i64 (okE false (cel (-(D : Int))))]) ∧ Ext w0 w' := by
  have hz : b ≠ 0 := by clear hP; omega
  have hz2 : (b == 0) = false := by simpa using hz
  have hbn : 0 ≤ b := by clear hP; omega
  have hD1 : D ≤ P := by rw [← hD]; exact Nat.div_le_self _ _
  have hD2 : D < 170141183460469231731687303715884105728 := Nat.lt_of_le_of_lt hD1 hP
  have hE1 : E < B := by rw [← hE]; exact Nat.mod_lt _ hp
  have hB2 : B ≤ 9223372036854775808 := by have := i64_bd hb; clear hP hD2; omega
  have hE2 : E < 9223372036854775808 := by clear hP hD2; omega
  obtain ⟨l1, l2⟩ := lo_small E hE2
  have hsg := V_neg a c ha hc
  have hY : c < 0 := by clear hP hD2; omega
  have hW := W_big P hP
  have hng2 := Lib.hid (fun w => rneg_calls w a c ha hc w (Ext.refl w))
  rw [hv, Int.neg_neg] at hng2
  have hU : U b = (B : Int) := by unfold U; have := i64_bd hb; clear hP hD2; omega
  have hlg := Lib.hid (fun w => rlong_calls w (lo (P : Int)) (hi (P : Int)) b (lo_i64 _) (hi_i64 _) hb hz P B hW hU w (Ext.refl w))
  rw [hD, hE] at hlg
  have hn3 := Lib.hid (fun w => rneg_mk (D : Int) w)
  have hft := fits_mk (-(D : Int)) (by omega) (by omega)
  have hlq : cel (-(D : Int)) = true → lo (-(D : Int)) = -(D : Int) := fun h => wrap_id (cel_yes h)
  clear hP hD2 hD1 hsg hB2 hE2 hW hU hv hD hE hE1
  obtain ⟨L, hL0⟩ : ∃ q, q = lo (E : Int) := ⟨_, rfl⟩
  rw [← hL0] at hlg l1
  obtain ⟨q0, hq0'⟩ : ∃ q, q = lo (D : Int) := ⟨_, rfl⟩
  obtain ⟨q1, hq1'⟩ : ∃ q, q = hi (D : Int) := ⟨_, rfl⟩
  rw [← hq0', ← hq1'] at hlg hn3
  obtain ⟨n0, hn0'⟩ : ∃ q, q = lo (-(D : Int)) := ⟨_, rfl⟩
  obtain ⟨n1, hn1'⟩ : ∃ q, q = hi (-(D : Int)) := ⟨_, rfl⟩
  rw [← hn0', ← hn1'] at hn3 hft
  rw [← hn0'] at hlq
  obtain ⟨x2, hx2⟩ : ∃ q, q = lo (P : Int) := ⟨_, rfl⟩
  obtain ⟨y2, hy2⟩ : ∃ q, q = hi (P : Int) := ⟨_, rfl⟩
  rw [← hx2, ← hy2] at hng2 hlg
  have hlz := lz_of l1
  rw [← l1]
  obtain ⟨q, hq'⟩ : ∃ q, q = -(D : Int) := ⟨_, rfl⟩
  rw [← hq'] at hft hlq ⊢
  by_cases hcl : cel q = true
  · have hft' := Lib.hid hft
    rw [hcl] at hft'
    have hlq3 := hlq hcl
    rw [hcl, okR_near, okR_near, okE_near]
    have e := rfloor_p_z_y w0 a c b 0 0 0 x2 y2 L q0 q1 n0 n1 0 0 0 0 hz2 hz hbn HL hY hng2 hlg hn3 (hlz.1 hE0) hft' w h
    rw [hlq3] at e
    exact e
  · have hcl' : cel q = false := by simpa using hcl
    have hft' := Lib.hid hft
    rw [hcl'] at hft'
    rw [hcl', okR_far, okR_far, okE_far]
    exact rfloor_p_z_n w0 a c b 0 0 0 x2 y2 L q0 q1 n0 n1 0 0 0 0 hz2 hz hbn HL hY hng2 hlg hn3 (hlz.1 hE0) hft' w h
theorem rfl_p_m (w0 : World) (a c b : Int) (ha : I64 a) (hc : I64 c) (hb : I64 b) (P B D E : Nat) (hv : V a c = -(P : Int)) (hB : b = (B : Int)) (hp : 0 < B) (hD : P / B = D) (hE : P % B = E) (hP : P < 170141183460469231731687303715884105728)
    (HL : (a == 0 && c == -9223372036854775808) = false) (hP0 : 0 < P) (hE0 : E ≠ 0) (w : World) (h : Ext w0 w) :
    Calls Try.prog 32 #[.agg #[.int .i64 a, .int .i64 c], .int .i64 b] w fun e w' => e = .returned (.tuple #[.int .i64 (okR false (cel (-(D : Int) + -1)) (((B : Int) - (E : Int)))), .int .i64 (okR false (cel (-(D : Int) + -1)) (-(D : Int) + -1)), .int .i64 (okE false (cel (-(D : Int) + -1)))]) ∧ Ext w0 w' := by
  have hz : b ≠ 0 := by clear hP; omega
  have hz2 : (b == 0) = false := by simpa using hz
  have hbn : 0 ≤ b := by clear hP; omega
  have hD1 : D ≤ P := by rw [← hD]; exact Nat.div_le_self _ _
  have hD2 : D < 170141183460469231731687303715884105728 := Nat.lt_of_le_of_lt hD1 hP
  have hE1 : E < B := by rw [← hE]; exact Nat.mod_lt _ hp
  have hB2 : B ≤ 9223372036854775808 := by have := i64_bd hb; clear hP hD2; omega
  have hE2 : E < 9223372036854775808 := by clear hP hD2; omega
  obtain ⟨l1, l2⟩ := lo_small E hE2
  have hsg := V_neg a c ha hc
  have hY : c < 0 := by clear hP hD2; omega
  have hW := W_big P hP
  have hng2 := Lib.hid (fun w => rneg_calls w a c ha hc w (Ext.refl w))
  rw [hv, Int.neg_neg] at hng2
  have hU : U b = (B : Int) := by unfold U; have := i64_bd hb; clear hP hD2; omega
  have hlg := Lib.hid (fun w => rlong_calls w (lo (P : Int)) (hi (P : Int)) b (lo_i64 _) (hi_i64 _) hb hz P B hW hU w (Ext.refl w))
  rw [hD, hE] at hlg
  have hn3 := Lib.hid (fun w => rneg_mk (D : Int) w)
  have had := Lib.hid (fun w => radd_minus (-(D : Int)) w)
  have hft := fits_mk (-(D : Int) + -1) (by omega) (by omega)
  have hlq : cel (-(D : Int) + -1) = true → lo (-(D : Int) + -1) = -(D : Int) + -1 := fun h => wrap_id (cel_yes h)
  have eM := fl_M2 b B E hB (by have := i64_bd hb; clear hP hD2; omega) hE1
  clear hP hD2 hD1 hsg hB2 hE2 hW hU hv hD hE hE1
  obtain ⟨L, hL0⟩ : ∃ q, q = lo (E : Int) := ⟨_, rfl⟩
  rw [← hL0] at hlg l1
  obtain ⟨q0, hq0'⟩ : ∃ q, q = lo (D : Int) := ⟨_, rfl⟩
  obtain ⟨q1, hq1'⟩ : ∃ q, q = hi (D : Int) := ⟨_, rfl⟩
  rw [← hq0', ← hq1'] at hlg hn3
  obtain ⟨n0, hn0'⟩ : ∃ q, q = lo (-(D : Int)) := ⟨_, rfl⟩
  obtain ⟨n1, hn1'⟩ : ∃ q, q = hi (-(D : Int)) := ⟨_, rfl⟩
  rw [← hn0', ← hn1'] at hn3 had
  obtain ⟨m0, hm0'⟩ : ∃ q, q = lo (-(D : Int) + -1) := ⟨_, rfl⟩
  obtain ⟨m1, hm1'⟩ : ∃ q, q = hi (-(D : Int) + -1) := ⟨_, rfl⟩
  rw [← hm0', ← hm1'] at had hft
  rw [← hm0'] at hlq
  obtain ⟨x2, hx2⟩ : ∃ q, q = lo (P : Int) := ⟨_, rfl⟩
  obtain ⟨y2, hy2⟩ : ∃ q, q = hi (P : Int) := ⟨_, rfl⟩
  rw [← hx2, ← hy2] at hng2 hlg
  have hlz := lz_of l1
  obtain ⟨M, hM⟩ : ∃ q, q = (B : Int) - (E : Int) := ⟨_, rfl⟩
  rw [← hM] at eM ⊢
  rw [← l1] at eM
  obtain ⟨q, hq'⟩ : ∃ q, q = -(D : Int) + -1 := ⟨_, rfl⟩
  rw [← hq'] at hft hlq ⊢
  by_cases hcl : cel q = true
  · have hft' := Lib.hid hft
    rw [hcl] at hft'
    have hlq3 := hlq hcl
    rw [hcl, okR_near, okR_near, okE_near]
    have e := rfloor_p_m_y w0 a c b 0 0 0 x2 y2 L q0 q1 n0 n1 m0 m1 M 0 hz2 hz hbn HL hY hng2 hlg hn3 (hlz.2 hE0) had eM hft' w h
    rw [hlq3] at e
    exact e
  · have hcl' : cel q = false := by simpa using hcl
    have hft' := Lib.hid hft
    rw [hcl'] at hft'
    rw [hcl', okR_far, okR_far, okE_far]
    exact rfloor_p_m_n w0 a c b 0 0 0 x2 y2 L q0 q1 n0 n1 m0 m1 M 0 hz2 hz hbn HL hY hng2 hlg hn3 (hlz.2 hE0) had eM hft' w h
theorem rfl_n_p (w0 : World) (a c b : Int) (ha : I64 a) (hc : I64 c) (hb : I64 b) (P B D E : Nat) (hv : V a c = -(P : Int)) (hB : b = -(B : Int)) (hp : 0 < B) (hD : P / B = D) (hE : P % B = E) (hP : P < 170141183460469231731687303715884105728)
    (HL : (a == 0 && c == -9223372036854775808) = false) (w : World) (h : Ext w0 w) :
    Calls Try.prog 32 #[.agg #[.int .i64 a, .int .i64 c], .int .i64 b] w fun e w' => e = .returned (.tuple #[.int .i64 (okR false (cel ((D : Int))) (-(E : Int))), .int .i64 (okR false (cel ((D : Int))) ((D : Int))), .int .i64 (okE false (cel ((D : Int))))]) ∧ Ext w0 w' := by
  have hz : b ≠ 0 := by clear hP; omega
  have hz2 : (b == 0) = false := by simpa using hz
  have hbn : b < 0 := by clear hP; omega
  have hD1 : D ≤ P := by rw [← hD]; exact Nat.div_le_self _ _
  have hD2 : D < 170141183460469231731687303715884105728 := Nat.lt_of_le_of_lt hD1 hP
  have hE1 : E < B := by rw [← hE]; exact Nat.mod_lt _ hp
  have hB2 : B ≤ 9223372036854775808 := by have := i64_bd hb; clear hP hD2; omega
  have hE2 : E < 9223372036854775808 := by clear hP hD2; omega
  obtain ⟨l1, l2⟩ := lo_small E hE2
  have hsg := V_neg a c ha hc
  have hng := Lib.hid (fun w => rneg_calls w a c ha hc w (Ext.refl w))
  rw [hv, Int.neg_neg] at hng
  obtain ⟨k1, k2⟩ := V_hi ((P : Int)) (by omega) (by omega)
  have hY : 0 ≤ hi (P : Int) := k2 (by clear hP; omega)
  have hW := W_big P hP
  obtain ⟨hU, hy0⟩ := fl_yb b hb B hB hp
  have hlg := Lib.hid (fun w => rlong_calls w (lo (P : Int)) (hi (P : Int)) (wrap64 (-b)) (lo_i64 _) (hi_i64 _) (i64_wrap _) hy0 P B hW hU w (Ext.refl w))
  rw [hD, hE] at hlg
  have hft := fits_mk ((D : Int)) (by omega) (by omega)
  have hlq : cel ((D : Int)) = true → lo ((D : Int)) = (D : Int) := fun h => wrap_id (cel_yes h)
  clear hP hD2 hD1 hsg hB2 hE2 hW hU hv hD hE hE1 k1 k2 hy0
  obtain ⟨L, hL0⟩ : ∃ q, q = lo (E : Int) := ⟨_, rfl⟩
  rw [← hL0] at hlg l1
  obtain ⟨q0, hq0'⟩ : ∃ q, q = lo (D : Int) := ⟨_, rfl⟩
  obtain ⟨q1, hq1'⟩ : ∃ q, q = hi (D : Int) := ⟨_, rfl⟩
  rw [← hq0', ← hq1'] at hlg hft
  rw [← hq0'] at hlq
  obtain ⟨x, hx⟩ : ∃ q, q = lo (P : Int) := ⟨_, rfl⟩
  obtain ⟨y, hy⟩ : ∃ q, q = hi (P : Int) := ⟨_, rfl⟩
  rw [← hx, ← hy] at hng hlg
  rw [← hy] at hY
  obtain ⟨yb, hyb⟩ : ∃ q, q = wrap64 (-b) := ⟨_, rfl⟩
  rw [← hyb] at hlg
  have hlz := lz_of l1
  rw [← l1] at l2 ⊢
  obtain ⟨F, hF⟩ : ∃ q, q = -L := ⟨_, rfl⟩
  have eF2 : wrap64 (-L) = F := by rw [l2, hF]
  rw [← hF]
  obtain ⟨q, hq'⟩ : ∃ q, q = (D : Int) := ⟨_, rfl⟩
  rw [← hq'] at hft hlq ⊢
  by_cases hcl : cel q = true
  · have hft' := Lib.hid hft
    rw [hcl] at hft'
    have hlq3 := hlq hcl
    rw [hcl, okR_near, okR_near, okE_near]
    have e := rfloor_n_p_y w0 a c b x y yb 0 0 L q0 q1 0 0 0 0 0 F hz2 hz hbn HL hng hyb.symm hY hlg eF2 hft' w h
    rw [hlq3] at e
    exact e
  · have hcl' : cel q = false := by simpa using hcl
    have hft' := Lib.hid hft
    rw [hcl'] at hft'
    rw [hcl', okR_far, okR_far, okE_far]
    exact rfloor_n_p_n w0 a c b x y yb 0 0 L q0 q1 0 0 0 0 0 F hz2 hz hbn HL hng hyb.symm hY hlg eF2 hft' w h
theorem rfl_n_z (w0 : World) (a c b : Int) (ha : I64 a) (hc : I64 c) (hb : I64 b) (P B D E : Nat) (hv : V a c = (P : Int)) (hB : b = -(B : Int)) (hp : 0 < B) (hD : P / B = D) (hE : P % B = E) (hP : P < 170141183460469231731687303715884105728)
    (HL : (a == 0 && c == -9223372036854775808) = false) (hP0 : 0 < P) (hE0 : E = 0) (w : World) (h : Ext w0 w) :
    Calls Try.prog 32 #[.agg #[.int .i64 a, .int .i64 c], .int .i64 b] w fun e w' => e = .returned (.tuple #[.int .i64 (okR false (cel (-(D : Int))) (-(E : Int))), .int .i64 (okR false (cel (-(D : Int))) (-(D : Int))), .int .i64 (okE false (cel (-(D : Int))))]) ∧ Ext w0 w' := by
  have hz : b ≠ 0 := by clear hP; omega
  have hz2 : (b == 0) = false := by simpa using hz
  have hbn : b < 0 := by clear hP; omega
  have hD1 : D ≤ P := by rw [← hD]; exact Nat.div_le_self _ _
  have hD2 : D < 170141183460469231731687303715884105728 := Nat.lt_of_le_of_lt hD1 hP
  have hE1 : E < B := by rw [← hE]; exact Nat.mod_lt _ hp
  have hB2 : B ≤ 9223372036854775808 := by have := i64_bd hb; clear hP hD2; omega
  have hE2 : E < 9223372036854775808 := by clear hP hD2; omega
  obtain ⟨l1, l2⟩ := lo_small E hE2
  have hsg := V_neg a c ha hc
  have hng := Lib.hid (fun w => rneg_calls w a c ha hc w (Ext.refl w))
  rw [hv] at hng
  obtain ⟨k1, k2⟩ := V_hi (-(P : Int)) (by omega) (by omega)
  have hY : hi (-(P : Int)) < 0 := k1 (by clear hP; omega)
  have hW := W_big P hP
  have hng2 := Lib.hid (fun w => rneg_mk (-(P : Int)) w)
  rw [Int.neg_neg] at hng2
  obtain ⟨hU, hy0⟩ := fl_yb b hb B hB hp
  have hlg := Lib.hid (fun w => rlong_calls w (lo (P : Int)) (hi (P : Int)) (wrap64 (-b)) (lo_i64 _) (hi_i64 _) (i64_wrap _) hy0 P B hW hU w (Ext.refl w))
  rw [hD, hE] at hlg
  have hn3 := Lib.hid (fun w => rneg_mk (D : Int) w)
  have hft := fits_mk (-(D : Int)) (by omega) (by omega)
  have hlq : cel (-(D : Int)) = true → lo (-(D : Int)) = -(D : Int) := fun h => wrap_id (cel_yes h)
  clear hP hD2 hD1 hsg hB2 hE2 hW hU hv hD hE hE1 k1 k2 hy0
  obtain ⟨L, hL0⟩ : ∃ q, q = lo (E : Int) := ⟨_, rfl⟩
  rw [← hL0] at hlg l1
  obtain ⟨q0, hq0'⟩ : ∃ q, q = lo (D : Int) := ⟨_, rfl⟩
  obtain ⟨q1, hq1'⟩ : ∃ q, q = hi (D : Int) := ⟨_, rfl⟩
  rw [← hq0', ← hq1'] at hlg hn3
  obtain ⟨n0, hn0'⟩ : ∃ q, q = lo (-(D : Int)) := ⟨_, rfl⟩
  obtain ⟨n1, hn1'⟩ : ∃ q, q = hi (-(D : Int)) := ⟨_, rfl⟩
  rw [← hn0', ← hn1'] at hn3 hft
  rw [← hn0'] at hlq
  obtain ⟨x, hx⟩ : ∃ q, q = lo (-(P : Int)) := ⟨_, rfl⟩
  obtain ⟨y, hy⟩ : ∃ q, q = hi (-(P : Int)) := ⟨_, rfl⟩
  rw [← hx, ← hy] at hng hng2
  rw [← hy] at hY
  obtain ⟨yb, hyb⟩ : ∃ q, q = wrap64 (-b) := ⟨_, rfl⟩
  rw [← hyb] at hlg
  obtain ⟨x2, hx2⟩ : ∃ q, q = lo (P : Int) := ⟨_, rfl⟩
  obtain ⟨y2, hy2⟩ : ∃ q, q = hi (P : Int) := ⟨_, rfl⟩
  rw [← hx2, ← hy2] at hng2 hlg
  have hlz := lz_of l1
  rw [← l1] at l2 ⊢
  obtain ⟨F, hF⟩ : ∃ q, q = -L := ⟨_, rfl⟩
  have eF2 : wrap64 (-L) = F := by rw [l2, hF]
  rw [← hF]
  obtain ⟨q, hq'⟩ : ∃ q, q = -(D : Int) := ⟨_, rfl⟩
  rw [← hq'] at hft hlq ⊢
  by_cases hcl : cel q = true
  · have hft' := Lib.hid hft
    rw [hcl] at hft'
    have hlq3 := hlq hcl
    rw [hcl, okR_near, okR_near, okE_near]
    have e := rfloor_n_z_y w0 a c b x y yb x2 y2 L q0 q1 n0 n1 0 0 0 F hz2 hz hbn HL hng hyb.symm hY hng2 hlg hn3 (hlz.1 hE0) eF2 hft' w h
    rw [hlq3] at e
    exact e
  · have hcl' : cel q = false := by simpa using hcl
    have hft' := Lib.hid hft
    rw [hcl'] at hft'
    rw [hcl', okR_far, okR_far, okE_far]
    exact rfloor_n_z_n w0 a c b x y yb x2 y2 L q0 q1 n0 n1 0 0 0 F hz2 hz hbn HL hng hyb.symm hY hng2 hlg hn3 (hlz.1 hE0) eF2 hft' w h
theorem rfl_n_m (w0 : World) (a c b : Int) (ha : I64 a) (hc : I64 c) (hb : I64 b) (P B D E : Nat) (hv : V a c = (P : Int)) (hB : b = -(B : Int)) (hp : 0 < B) (hD : P / B = D) (hE : P % B = E) (hP : P < 170141183460469231731687303715884105728)
    (HL : (a == 0 && c == -9223372036854775808) = false) (hP0 : 0 < P) (hE0 : E ≠ 0) (w : World) (h : Ext w0 w) :
    Calls Try.prog 32 #[.agg #[.int .i64 a, .int .i64 c], .int .i64 b] w fun e w' => e = .returned (.tuple #[.int .i64 (okR false (cel (-(D : Int) + -1)) (-((B : Int) - (E : Int)))), .int .i64 (okR false (cel (-(D : Int) + -1)) (-(D : Int) + -1)), .int .i64 (okE false (cel (-(D : Int) + -1)))]) ∧ Ext w0 w' := by
  have hz : b ≠ 0 := by clear hP; omega
  have hz2 : (b == 0) = false := by simpa using hz
  have hbn : b < 0 := by clear hP; omega
  have hD1 : D ≤ P := by rw [← hD]; exact Nat.div_le_self _ _
  have hD2 : D < 170141183460469231731687303715884105728 := Nat.lt_of_le_of_lt hD1 hP
  have hE1 : E < B := by rw [← hE]; exact Nat.mod_lt _ hp
  have hB2 : B ≤ 9223372036854775808 := by have := i64_bd hb; clear hP hD2; omega
  have hE2 : E < 9223372036854775808 := by clear hP hD2; omega
  obtain ⟨l1, l2⟩ := lo_small E hE2
  have hsg := V_neg a c ha hc
  have hng := Lib.hid (fun w => rneg_calls w a c ha hc w (Ext.refl w))
  rw [hv] at hng
  obtain ⟨k1, k2⟩ := V_hi (-(P : Int)) (by omega) (by omega)
  have hY : hi (-(P : Int)) < 0 := k1 (by clear hP; omega)
  have hW := W_big P hP
  have hng2 := Lib.hid (fun w => rneg_mk (-(P : Int)) w)
  rw [Int.neg_neg] at hng2
  obtain ⟨hU, hy0⟩ := fl_yb b hb B hB hp
  have hlg := Lib.hid (fun w => rlong_calls w (lo (P : Int)) (hi (P : Int)) (wrap64 (-b)) (lo_i64 _) (hi_i64 _) (i64_wrap _) hy0 P B hW hU w (Ext.refl w))
  rw [hD, hE] at hlg
  have hn3 := Lib.hid (fun w => rneg_mk (D : Int) w)
  have had := Lib.hid (fun w => radd_minus (-(D : Int)) w)
  have hft := fits_mk (-(D : Int) + -1) (by omega) (by omega)
  have hlq : cel (-(D : Int) + -1) = true → lo (-(D : Int) + -1) = -(D : Int) + -1 := fun h => wrap_id (cel_yes h)
  obtain ⟨eM, eF⟩ := fl_M b B E hB hB2 hE1 hE0
  clear hP hD2 hD1 hsg hB2 hE2 hW hU hv hD hE hE1 k1 k2 hy0
  obtain ⟨L, hL0⟩ : ∃ q, q = lo (E : Int) := ⟨_, rfl⟩
  rw [← hL0] at hlg l1
  obtain ⟨q0, hq0'⟩ : ∃ q, q = lo (D : Int) := ⟨_, rfl⟩
  obtain ⟨q1, hq1'⟩ : ∃ q, q = hi (D : Int) := ⟨_, rfl⟩
  rw [← hq0', ← hq1'] at hlg hn3
  obtain ⟨n0, hn0'⟩ : ∃ q, q = lo (-(D : Int)) := ⟨_, rfl⟩
  obtain ⟨n1, hn1'⟩ : ∃ q, q = hi (-(D : Int)) := ⟨_, rfl⟩
  rw [← hn0', ← hn1'] at hn3 had
  obtain ⟨m0, hm0'⟩ : ∃ q, q = lo (-(D : Int) + -1) := ⟨_, rfl⟩
  obtain ⟨m1, hm1'⟩ : ∃ q, q = hi (-(D : Int) + -1) := ⟨_, rfl⟩
  rw [← hm0', ← hm1'] at had hft
  rw [← hm0'] at hlq
  obtain ⟨x, hx⟩ : ∃ q, q = lo (-(P : Int)) := ⟨_, rfl⟩
  obtain ⟨y, hy⟩ : ∃ q, q = hi (-(P : Int)) := ⟨_, rfl⟩
  rw [← hx, ← hy] at hng hng2
  rw [← hy] at hY
  obtain ⟨yb, hyb⟩ : ∃ q, q = wrap64 (-b) := ⟨_, rfl⟩
  rw [← hyb] at hlg
  rw [← hyb] at eM
  obtain ⟨x2, hx2⟩ : ∃ q, q = lo (P : Int) := ⟨_, rfl⟩
  obtain ⟨y2, hy2⟩ : ∃ q, q = hi (P : Int) := ⟨_, rfl⟩
  rw [← hx2, ← hy2] at hng2 hlg
  have hlz := lz_of l1
  obtain ⟨M, hM⟩ : ∃ q, q = (B : Int) - (E : Int) := ⟨_, rfl⟩
  rw [← hM] at eM ⊢
  rw [← l1] at eM
  rw [← hM] at eF
  obtain ⟨F, hF⟩ : ∃ q, q = -M := ⟨_, rfl⟩
  rw [← hF] at eF ⊢
  rw [hF] at eF
  have eF2 : wrap64 (-M) = F := by rw [eF, hF]
  obtain ⟨q, hq'⟩ : ∃ q, q = -(D : Int) + -1 := ⟨_, rfl⟩
  rw [← hq'] at hft hlq ⊢
  by_cases hcl : cel q = true
  · have hft' := Lib.hid hft
    rw [hcl] at hft'
    have hlq3 := hlq hcl
    rw [hcl, okR_near, okR_near, okE_near]
    have e := rfloor_n_m_y w0 a c b x y yb x2 y2 L q0 q1 n0 n1 m0 m1 M F hz2 hz hbn HL hng hyb.symm hY hng2 hlg hn3 (hlz.2 hE0) had eM eF2 hft' w h
    rw [hlq3] at e
    exact e
  · have hcl' : cel q = false := by simpa using hcl
    have hft' := Lib.hid hft
    rw [hcl'] at hft'
    rw [hcl', okR_far, okR_far, okE_far]
    exact rfloor_n_m_n w0 a c b x y yb x2 y2 L q0 q1 n0 n1 m0 m1 M F hz2 hz hbn HL hng hyb.symm hY hng2 hlg hn3 (hlz.2 hE0) had eM eF2 hft' w h

theorem FQ_pos (P B : Nat) (hp : 0 < B) : FQ (P : Int) (B : Int) = ((P / B : Nat) : Int) ∧ FR (P : Int) (B : Int) = ((P % B : Nat) : Int) :=
  floor_one (by rw [← Int.natCast_mul, ← Int.natCast_add, Nat.mul_comm, Nat.div_add_mod]) (.inl ⟨by omega, by have := Nat.mod_lt P hp; omega⟩)
theorem FQ_neg (P B : Nat) (hp : 0 < B) (h : P % B = 0) : FQ (-(P : Int)) (B : Int) = -((P / B : Nat) : Int) ∧ FR (-(P : Int)) (B : Int) = ((P % B : Nat) : Int) := by
  refine floor_one ?_ (.inl ⟨by omega, by have := Nat.mod_lt P hp; omega⟩)
  have e := Nat.div_add_mod P B
  rw [h, Int.neg_mul, ← Int.natCast_mul, Nat.mul_comm]
  omega
theorem FQ_less (P B : Nat) (hp : 0 < B) (h : P % B ≠ 0) : FQ (-(P : Int)) (B : Int) = -((P / B : Nat) : Int) + -1 ∧ FR (-(P : Int)) (B : Int) = (B : Int) - ((P % B : Nat) : Int) := by
  have hl := Nat.mod_lt P hp
  refine floor_one ?_ (.inl ⟨by omega, by omega⟩)
  have e := Nat.div_add_mod P B
  rw [Int.add_mul, Int.neg_mul, ← Int.natCast_mul, Nat.mul_comm]
  omega
theorem FQ_flip (v b : Int) (hb : b < 0) : FQ v b = FQ (-v) (-b) ∧ FR v b = -FR (-v) (-b) := by
  unfold FQ FR
  rw [if_pos hb, if_pos hb, if_neg (by omega), if_neg (by omega)]
  exact ⟨rfl, rfl⟩
theorem cel_least (b : Int) (hb : I64 b) (hz : b ≠ 0) : cel (FQ (-170141183460469231731687303715884105728) b) = false := by
  unfold cel
  rw [decide_eq_false_iff_not]
  unfold I64 at hb
  unfold FQ
  by_cases hn : b < 0
  · rw [if_pos hn, Int.neg_neg]
    have : (18446744073709551616 : Int) ≤ 170141183460469231731687303715884105728 / (-b) := Int.le_ediv_of_mul_le (by omega) (by omega)
    omega
  · rw [if_neg hn]
    have : (-170141183460469231731687303715884105728 : Int) / b < -9223372036854775808 := Int.ediv_lt_of_lt_mul (by omega) (by omega)
    omega
theorem rfloor_calls (w0 : World) (a c b : Int) (ha : I64 a) (hc : I64 c) (hb : I64 b) (w : World) (h : Ext w0 w) :
    Calls Try.prog 32 #[.agg #[.int .i64 a, .int .i64 c], .int .i64 b] w fun e w' => e = .returned (.tuple #[.int .i64 (okR (b == 0) (cel (FQ (V a c) b)) (FR (V a c) b)), .int .i64 (okR (b == 0) (cel (FQ (V a c) b)) (FQ (V a c) b)), .int .i64 (okE (b == 0) (cel (FQ (V a c) b)))]) ∧ Ext w0 w' := by
  by_cases hz : b = 0
  · subst hz
    exact rfloor_zero w0 a c _ _ _ w h
  · have hz2 : (b == 0) = false := by simpa using hz
    rw [hz2]
    have hvb := V_bd (l := a) hc
    have hls := least_is a c ha hc
    by_cases hl : V a c = -170141183460469231731687303715884105728
    · have HL : (a == 0 && c == -9223372036854775808) = true := by rw [hls]; exact decide_eq_true hl
      have hcl := cel_least b hb hz
      rw [← hl] at hcl
      rw [hcl, okR_far, okR_far, okE_far]
      by_cases hn : b < 0
      · have hng := Lib.hid (fun w => rneg_calls w a c ha hc w (Ext.refl w))
        have hy : hi (-V a c) < 0 := by rw [hl]; decide +kernel
        exact rfloor_n_least w0 a c b _ _ 0 hz2 hz hn HL hng hy w h
      · exact rfloor_p_least w0 a c b 0 0 0 hz2 hz (by omega) HL w h
    · have HL : (a == 0 && c == -9223372036854775808) = false := by rw [hls]; exact decide_eq_false hl
      have hv1 : -170141183460469231731687303715884105728 < V a c := by omega
      clear hls hl
      by_cases hn : b < 0
      · obtain ⟨f1, f2⟩ := FQ_flip (V a c) b hn
        obtain ⟨B, hB⟩ := Int.eq_ofNat_of_zero_le (show 0 ≤ -b by omega)
        have hB2 : b = -(B : Int) := by omega
        have hp : 0 < B := by omega
        rw [f1, f2, hB]
        by_cases hs : V a c ≤ 0
        · obtain ⟨P, hP⟩ := Int.eq_ofNat_of_zero_le (show 0 ≤ -V a c by omega)
          rw [hP, (FQ_pos P B hp).1, (FQ_pos P B hp).2]
          exact rfl_n_p w0 a c b ha hc hb P B _ _ (by omega) hB2 hp rfl rfl (by omega) HL w h
        · obtain ⟨P, hP⟩ := Int.eq_ofNat_of_zero_le (show 0 ≤ V a c by omega)
          rw [hP]
          by_cases hm : P % B = 0
          · rw [(FQ_neg P B hp hm).1, (FQ_neg P B hp hm).2]
            exact rfl_n_z w0 a c b ha hc hb P B _ _ hP hB2 hp rfl rfl (by omega) HL (by omega) hm w h
          · rw [(FQ_less P B hp hm).1, (FQ_less P B hp hm).2]
            exact rfl_n_m w0 a c b ha hc hb P B _ _ hP hB2 hp rfl rfl (by omega) HL (by omega) hm w h
      · obtain ⟨B, hB⟩ := Int.eq_ofNat_of_zero_le (show 0 ≤ b by omega)
        have hp : 0 < B := by omega
        by_cases hs : 0 ≤ V a c
        · obtain ⟨P, hP⟩ := Int.eq_ofNat_of_zero_le hs
          have e : FQ (P : Int) b = ((P / B : Nat) : Int) ∧ FR (P : Int) b = ((P % B : Nat) : Int) := by rw [hB]; exact FQ_pos P B hp
          rw [hP, e.1, e.2]
          exact rfl_p_p w0 a c b ha hc hb P B _ _ hP hB hp rfl rfl (by omega) HL w h
        · obtain ⟨P, hP⟩ := Int.eq_ofNat_of_zero_le (show 0 ≤ -V a c by omega)
          have hP2 : V a c = -(P : Int) := by omega
          rw [hP2]
          by_cases hm : P % B = 0
          · have e : FQ (-(P : Int)) b = -((P / B : Nat) : Int) ∧ FR (-(P : Int)) b = ((P % B : Nat) : Int) := by rw [hB]; exact FQ_neg P B hp hm
            rw [e.1, e.2]
            exact rfl_p_z w0 a c b ha hc hb P B _ _ hP2 hB hp rfl rfl (by omega) HL (by omega) hm w h
          · have e : FQ (-(P : Int)) b = -((P / B : Nat) : Int) + -1 ∧ FR (-(P : Int)) b = (B : Int) - ((P % B : Nat) : Int) := by rw [hB]; exact FQ_less P B hp hm
            rw [e.1, e.2]
            exact rfl_p_m w0 a c b ha hc hb P B _ _ hP2 hB hp rfl rfl (by omega) HL (by omega) hm w h
end Go.Proofs.Ytfehpfcpeiopiaa
