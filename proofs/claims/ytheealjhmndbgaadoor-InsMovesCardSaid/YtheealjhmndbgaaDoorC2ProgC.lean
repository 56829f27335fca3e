/- Layer 2 (package pair): the signed product, and the long division in words. Condition: cells are integers of 64 bits. -/
import Derived.Test.YtheealjhmndbgaaDoorC2ProgB
import Derived.Test.YtheealjhmndbgaaDoorC2RefC
namespace Go.Proofs.YtheealjhmndbgaaDoor
open Go.RowKit
set_option linter.unusedVariables false

theorem word_div (h l y : Nat) (hy : 0 < y) : ((h % y) * 18446744073709551616 + l) / y + h / y * 18446744073709551616 = (h * 18446744073709551616 + l) / y ∧ ((h % y) * 18446744073709551616 + l) % y = (h * 18446744073709551616 + l) % y := by
  have e := Nat.div_add_mod h y
  obtain ⟨q, hq⟩ : ∃ q, q = h / y := ⟨_, rfl⟩
  obtain ⟨r, hr⟩ : ∃ q, q = h % y := ⟨_, rfl⟩
  rw [← hq, ← hr] at e ⊢
  have e2 : h * 18446744073709551616 + l = (r * 18446744073709551616 + l) + y * (q * 18446744073709551616) := by
    rw [← Nat.mul_assoc]; omega
  rw [e2, Nat.add_mul_div_left _ _ hy, Nat.add_mul_mod_self_left]
  exact ⟨rfl, rfl⟩
theorem lo_hi_nat (x y : Nat) (hy : y < 18446744073709551616) (hx : x < 18446744073709551616) : wrap64 (y : Int) = lo ((y + x * 18446744073709551616 : Nat) : Int) ∧ wrap64 (x : Int) = hi ((y + x * 18446744073709551616 : Nat) : Int) := by
  unfold lo hi wrap64; omega
theorem W_nat (a c : Int) : ∃ X Y P : Nat, U a = X ∧ U c = Y ∧ W a c = P ∧ P = Y * 18446744073709551616 + X ∧ X < 18446744073709551616 ∧ Y < 18446744073709551616 := by
  obtain ⟨a1, a2⟩ := U_bd a
  obtain ⟨b1, b2⟩ := U_bd c
  obtain ⟨X, hX⟩ := Int.eq_ofNat_of_zero_le a1
  obtain ⟨Y, hY⟩ := Int.eq_ofNat_of_zero_le b1
  refine ⟨X, Y, Y * 18446744073709551616 + X, hX, hY, ?_, rfl, by omega, by omega⟩
  unfold W
  omega
set_option maxRecDepth 100000 in
theorem divide_calls (w0 : World) (a c : Int) (P B : Nat) (hP : W a c = P) (hB : 0 < B) (hB2 : B < 18446744073709551616) (w : World) (h : Ext w0 w) :
    Calls Tryd.prog 59 #[.agg #[.int .i64 a, .int .i64 c], .int .u64 (B : Int)] w fun e w' => e = .returned (.tuple #[.int .u64 ((P % B : Nat) : Int), .agg #[.int .i64 (lo ((P / B : Nat) : Int)), .int .i64 (hi ((P / B : Nat) : Int))]]) ∧ Ext w0 w' := by
  obtain ⟨X, Y, P', hX, hY, hP', hPe, hXl, hYl⟩ := W_nat a c
  obtain rfl : P' = P := by omega
  have ea : IntKind.u64.wrap a = (X : Int) := by rw [← hX]; exact u64_wrap a
  have ec : IntKind.u64.wrap c = (Y : Int) := by rw [← hY]; exact u64_wrap c
  have hr1 : Y % B < B := Nat.mod_lt _ hB
  have hc1 := Lib.hid (fun w => div64_calls w 0 Y B hB hYl hB2 w (Ext.refl w))
  have hc2 := Lib.hid (fun w => div64_calls w (Y % B) X B hr1 hXl hB2 w (Ext.refl w))
  simp only [Nat.zero_mul, Nat.zero_add] at hc1
  obtain ⟨w1, w2⟩ := word_div Y X B hB
  rw [← hPe] at w1 w2
  have q1 : (Y % B * 18446744073709551616 + X) / B < 18446744073709551616 := by
    rw [Nat.div_lt_iff_lt_mul hB]
    calc Y % B * 18446744073709551616 + X < (Y % B + 1) * 18446744073709551616 := by omega
      _ ≤ B * 18446744073709551616 := Nat.mul_le_mul_right _ hr1
      _ = 18446744073709551616 * B := Nat.mul_comm _ _
  have q2 : Y / B < 18446744073709551616 := Nat.lt_of_le_of_lt (Nat.div_le_self _ _) hYl
  obtain ⟨l1, l2⟩ := lo_hi_nat (Y / B) ((Y % B * 18446744073709551616 + X) / B) q1 q2
  rw [w1] at l1 l2
  rw [← l1, ← l2]
  rw [w2] at hc2
  obtain ⟨ra, hra⟩ : ∃ r, r = Y % B := ⟨_, rfl⟩
  obtain ⟨qa, hqa⟩ : ∃ r, r = Y / B := ⟨_, rfl⟩
  rw [← hra] at hc1 hc2 ⊢
  rw [← hqa] at hc1 ⊢
  obtain ⟨qb, hqb⟩ : ∃ r, r = (ra * 18446744073709551616 + X) / B := ⟨_, rfl⟩
  obtain ⟨rb, hrb⟩ : ∃ r, r = P' % B := ⟨_, rfl⟩
  rw [← hqb] at hc2 ⊢
  rw [← hrb] at hc2 ⊢
  clear hX hY hP' hP hPe hXl hYl hr1 w1 w2 q1 q2 l1 l2 hra hqa hqb hrb hB hB2
  go_enter Tryd.func59, Tryd.ntmps59
  go_wp2_with fail
  refine (hc1.out _).mono ?_
  rintro e w1 ⟨rfl, hx1⟩
  have p0 := (Own.last (X := w) (x := Value.int .i64 a) (y := Value.int .i64 c) (t := 57)).alloc #[Value.int .i64 0, Value.int .i64 0] 57 |>.ext hx1
  have r0 := (Own.last (X := w.alloc (.cells #[Value.int .i64 a, Value.int .i64 c] 57)) (x := Value.int .i64 0) (y := Value.int .i64 0) (t := 57)).ext hx1
  rw [size_alloc] at r0
  have hX := ((h.cells _ _).cells _ _).trans hx1
  have hs0 := h.1.size
  clear h hx1 hc1
  have c0 := p0.c0
  have c1 := p0.c1
  go_wp2_with fail
  refine (hc2.out _).mono ?_
  rintro e w2 ⟨rfl, hx2⟩
  have r1 := r0.ext hx2
  have hX2 := hX.trans hx2
  clear hx2 hc2 p0 r0 hX c0 c1
  go_wp2_with fail
  refine (frombits_calls _ _ _ _ (Ext.refl _)).mono ?_
  rintro e w3 ⟨rfl, hx3⟩
  have r2 := r1.ext hx3
  have hX3 := hX2.trans hx3
  clear hx3 r1 hX2
  have c0 := r2.c0
  have c1 := r2.c1
  have f0 := r2.f0
  have f1 := r2.f1
  have lt := r2.lt
  go_wp2
  exact bodyPost_ret (v := .tuple #[.int .u64 (rb : Int), .agg #[.int .i64 (wrap64 (qb : Int)), .int .i64 (wrap64 (qa : Int))]]) (by simp [results, Tryd.results59, go_sem, c0, c1]) rfl ⟨rfl, hX3.set2 (by omega) _ _⟩
end Go.Proofs.YtheealjhmndbgaaDoor
