/- The document's answers for layer 3: what is taken off a number. Condition: cells are integers of 64 bits, the base is from 2 to 36. -/
import Derived.Test.YtnclfopdgilgaaaC3RefA
namespace Go.Proofs.Ytnclfopdgilgaaa
open Go.RowKit
set_option linter.unusedVariables false
theorem own2 (w : World) (a b c d : Value) : Own ((w.alloc (.cells #[a, b] 84)).alloc (.cells #[c, d] 84)) w.heap.size a b ∧ Own ((w.alloc (.cells #[a, b] 84)).alloc (.cells #[c, d] 84)) (w.heap.size + 1) c d := by
  refine ⟨Own.last.alloc _ _, ?_⟩
  have h := Own.last (X := w.alloc (.cells #[a, b] 84)) (x := c) (y := d) (t := 84)
  rwa [size_alloc] at h
theorem lo_hi_nat (x y : Nat) (hy : y < 18446744073709551616) (hx : x < 18446744073709551616) : wrap64 (y : Int) = lo ((y + x * 18446744073709551616 : Nat) : Int) ∧ wrap64 (x : Int) = hi ((y + x * 18446744073709551616 : Nat) : Int) := by
  unfold lo hi wrap64; omega
theorem word_div (h l y : Nat) (hy : 0 < y) : ((h % y) * 18446744073709551616 + l) / y + h / y * 18446744073709551616 = (h * 18446744073709551616 + l) / y ∧ ((h % y) * 18446744073709551616 + l) % y = (h * 18446744073709551616 + l) % y := by
  have e := Nat.div_add_mod h y
  obtain ⟨q, hq⟩ : ∃ q, q = h / y := ⟨_, rfl⟩
  obtain ⟨r, hr⟩ : ∃ q, q = h % y := ⟨_, rfl⟩
  rw [← hq, ← hr] at e ⊢
  have e2 : h * 18446744073709551616 + l = (r * 18446744073709551616 + l) + y * (q * 18446744073709551616) := by
    rw [← Nat.mul_assoc]; omega
  rw [e2, Nat.add_mul_div_left _ _ hy, Nat.add_mul_mod_self_left]
  exact ⟨rfl, rfl⟩
theorem W_nat (a c : Int) : ∃ X Y P : Nat, U a = X ∧ U c = Y ∧ W a c = P ∧ P = Y * 18446744073709551616 + X ∧ X < 18446744073709551616 ∧ Y < 18446744073709551616 := by
  obtain ⟨a1, a2⟩ := U_bd a
  obtain ⟨b1, b2⟩ := U_bd c
  obtain ⟨X, hX⟩ := Int.eq_ofNat_of_zero_le a1
  obtain ⟨Y, hY⟩ := Int.eq_ofNat_of_zero_le b1
  refine ⟨X, Y, Y * 18446744073709551616 + X, hX, hY, ?_, rfl, by omega, by omega⟩
  unfold W
  omega

theorem wrap_few (n : Nat) (h : n < 36) : wrap64 (n : Int) = (n : Int) ∧ U (n : Int) = (n : Int) ∧ I64 (n : Int) := by
  unfold I64 wrap64 U; omega
theorem U_few (b : Int) (B : Nat) (hb : b = B) (h : B ≤ 36) : U b = (B : Int) := by unfold U; omega
theorem W_two (a l : Int) (X n : Nat) (hX : U a = (X : Int)) (hl : U l = (n : Int)) : W a l = ((n * 18446744073709551616 + X : Nat) : Int) := by
  unfold W
  rw [hX, hl]
  omega
theorem dec_few (n : Nat) (h : n < 18446744073709551616) : decide ((n : Int) ≤ 18446744073709551615) = true := decide_eq_true (by omega)
theorem step_math (a c b : Int) (P B : Nat) (hP : W a c = P) (hb : b = B) (h2 : 2 ≤ B) (h36 : B ≤ 36) : ∃ l h1 r h2' : Int,
    W c 0 / U b = h1 ∧ wrap64 (W c 0 % U b) = l ∧ decide (h1 ≤ 18446744073709551615) = true ∧ W a l / U b = h2' ∧ wrap64 (W a l % U b) = r ∧ decide (h2' ≤ 18446744073709551615) = true
      ∧ lo h2' = lo ((P / B : Nat) : Int) ∧ lo h1 = hi ((P / B : Nat) : Int) ∧ r = ((P % B : Nat) : Int) ∧ I64 l := by
  obtain ⟨X, Y, P', hX, hY, hP', hPe, hXl, hYl⟩ := W_nat a c
  obtain rfl : P' = P := by omega
  have hU := U_few b B hb h36
  have hB0 : 0 < B := Nat.lt_of_lt_of_le (by decide) h2
  have hr : Y % B < B := Nat.mod_lt _ hB0
  have hr36 : Y % B < 36 := Nat.lt_of_lt_of_le hr h36
  have e1 : W c 0 = (Y : Int) := by rw [W_low, hY]
  obtain ⟨el, eU, eI⟩ := wrap_few (Y % B) hr36
  have e2 := W_two a ((Y % B : Nat) : Int) X (Y % B) hX eU
  obtain ⟨w1, w2⟩ := word_div Y X B hB0
  rw [← hPe] at w1 w2
  have q1 : (Y % B * 18446744073709551616 + X) / B < 18446744073709551616 := by
    rw [Nat.div_lt_iff_lt_mul hB0]
    calc Y % B * 18446744073709551616 + X < (Y % B + 1) * 18446744073709551616 := by rw [Nat.add_mul, Nat.one_mul]; exact Nat.add_lt_add_left hXl _
      _ ≤ B * 18446744073709551616 := Nat.mul_le_mul_right _ hr
      _ = 18446744073709551616 * B := Nat.mul_comm _ _
  have q2 : Y / B < 18446744073709551616 := Nat.lt_of_le_of_lt (Nat.div_le_self _ _) hYl
  obtain ⟨l1, l2⟩ := lo_hi_nat (Y / B) ((Y % B * 18446744073709551616 + X) / B) q1 q2
  rw [w1] at l1 l2
  have hr2 : P' % B < 36 := Nat.lt_of_lt_of_le (Nat.mod_lt _ hB0) h36
  refine ⟨((Y % B : Nat) : Int), ((Y / B : Nat) : Int), ((P' % B : Nat) : Int), (((Y % B * 18446744073709551616 + X) / B : Nat) : Int), ?_, ?_, ?_, ?_, ?_, ?_, ?_, ?_, rfl, ?_⟩
  · rw [e1, hU, ediv_nat]
  · rw [e1, hU, emod_nat, el]
  · exact dec_few _ q2
  · rw [e2, hU, ediv_nat]
  · rw [e2, hU, emod_nat, w2]; exact (wrap_few _ hr2).1
  · exact dec_few _ q1
  · exact l1
  · exact l2
  · exact eI
set_option maxRecDepth 100000 in
theorem rstep_calls (w0 : World) (a c b : Int) (ha : I64 a) (hc : I64 c) (P B : Nat) (hP : W a c = P) (hb : b = B) (h2 : 2 ≤ B) (h36 : B ≤ 36) (w : World) (h : Ext w0 w) :
    Calls Try.prog 67 #[.agg #[.int .i64 a, .int .i64 c], .int .i64 b] w fun e w' => e = .returned (.tuple #[.agg #[.int .i64 (lo ((P / B : Nat) : Int)), .int .i64 (hi ((P / B : Nat) : Int))], .int .u8 ((letter (P % B)).toNat : Int)]) ∧ Ext w0 w' := by
  obtain ⟨l, q1, r, q2, m1, m2, m3, m4, m5, m6, m7, m8, m9, hl⟩ := step_math a c b P B hP hb h2 h36
  have hbI : I64 b := by unfold I64; omega
  have hz : (b == 0) = false := by simp; omega
  have hx := fun W' => rudiv_calls W' c 0 b hc (by unfold I64; omega) hbI W' (Ext.refl W')
  rw [m1, m2, m3, hz, okR_near, okR_near, okE_near] at hx
  have c1 := Lib.hid hx
  clear hx
  have hx := fun W' => rudiv_calls W' a l b ha hl hbI W' (Ext.refl W')
  rw [m4, m5, m6, hz, okR_near, okR_near, okE_near, m7, m9] at hx
  rw [m8] at c1
  have c2 := Lib.hid hx
  clear hx
  have hr := Lib.hid (rright_calls b)
  have hR : P % B < 36 := Nat.lt_of_lt_of_le (Nat.mod_lt P (Nat.lt_of_lt_of_le (by decide) h2)) h36
  have hd : decide (2 ≤ b ∧ b ≤ 36) = true := decide_eq_true ⟨by omega, by omega⟩
  rw [hd] at hr
  clear m1 m2 m3 m4 m5 m6 m7 m8 m9 hP ha hc hbI hz hb h2 h36 hd hl
  obtain ⟨x, hx⟩ : ∃ x, x = lo ((P / B : Nat) : Int) := ⟨_, rfl⟩
  obtain ⟨y, hy⟩ : ∃ x, x = hi ((P / B : Nat) : Int) := ⟨_, rfl⟩
  obtain ⟨R, hRR⟩ : ∃ x, x = P % B := ⟨_, rfl⟩
  rw [← hx, ← hRR] at c2
  rw [← hy] at c1
  rw [← hx, ← hy, ← hRR]
  rw [← hRR] at hR
  clear hx hy hRR
  have hR2 : (R : Int) < 36 := by omega
  go_enter Try.func67, Try.ntmps67
  go_wp2_with fail
  refine (hr.out _).mono ?_
  rintro e w1 ⟨rfl, rfl⟩
  obtain ⟨o0, o1⟩ := own2 w (.int .i64 a) (.int .i64 c) (.int .i64 0) (.int .i64 0)
  have hs0 := h.1.size
  have hX := (h.cells #[.int .i64 a, .int .i64 c] 84).cells #[.int .i64 0, .int .i64 0] 84
  clear h hr
  go_wp2_with fail
  refine (c1.out _).mono ?_
  rintro e w2 ⟨rfl, hx2⟩
  replace o0 := o0.ext hx2
  replace o1 := o1.ext hx2
  replace hX := hX.trans hx2
  clear hx2 c1
  have p0 := o0.c0
  have p1 := o0.c1
  go_wp2_with fail
  refine (c2.out _).mono ?_
  rintro e w3 ⟨rfl, hx3⟩
  replace o1 := o1.ext hx3
  replace hX := hX.trans hx3
  clear hx3 c2 p0 p1 o0
  have g0 := o1.c0
  have g1 := o1.c1
  have f0 := o1.f0
  have f1 := o1.f1
  have lt := o1.lt
  have hd0 : (0 : Int) ≤ R := by omega
  go_wp2_with fail
  go_region
  go_wp2
  have o9 := o1.set (.int .i64 x) (.int .i64 y)
  have k0 := o9.c0
  have k1 := o9.c1
  refine bodyPost_ret (v := .tuple #[.agg #[.int .i64 x, .int .i64 y], .int .u8 ((letter R).toNat : Int)]) ?_ rfl ⟨rfl, (hX.set2 (n := w.heap.size + 1) (by omega) _ _).drew⟩
  simp [results, Try.results67, go_sem, k0, k1]
  rw [letters_at]
end Go.Proofs.Ytnclfopdgilgaaa
