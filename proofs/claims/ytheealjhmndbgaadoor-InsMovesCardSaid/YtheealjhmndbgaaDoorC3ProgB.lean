/- Layer 3 (package digit): what is taken off a number, and one digit taken in. Condition: cells are integers of 64 bits, the base is from 2 to 36. -/
import Derived.Test.YtheealjhmndbgaaDoorC3ProgA
import Derived.Test.YtheealjhmndbgaaDoorC3RefD
import Derived.Test.YtheealjhmndbgaaDoorC2ProgF
namespace Go.Proofs.YtheealjhmndbgaaDoor
open Go.RowKit
set_option linter.unusedVariables false

set_option maxRecDepth 100000 in
theorem step_calls (a c b : Int) (ha : I64 a) (hc : I64 c) (P B : Nat) (hP : W a c = P) (hb : b = B) (h2 : 2 ≤ B) (h36 : B ≤ 36) (w : World) :
    Calls Tryd.prog 51 #[.agg #[.int .i64 a, .int .i64 c], .int .i64 b] w fun e w' => e = .returned (.tuple #[.agg #[.int .i64 (lo ((P / B : Nat) : Int)), .int .i64 (hi ((P / B : Nat) : Int))], .int .u8 ((letter (P % B)).toNat : Int)]) ∧ Ext w w' := by
  obtain ⟨l, q1, r, q2, m1, m2, m3, m4, m5, m6, m7, m8, m9, hl⟩ := step_math a c b P B hP hb h2 h36
  have hbI : I64 b := by unfold I64; omega
  have hz : (b == 0) = false := by simp; omega
  have hx := fun W' => udiv_calls W' c 0 b hc (by unfold I64; omega) hbI W' (Ext.refl W')
  rw [m1, m2, m3, hz, okR_near, okR_near, okE_near] at hx
  have c1 := Lib.hid hx
  clear hx
  have hx := fun W' => udiv_calls W' a l b ha hl hbI W' (Ext.refl W')
  rw [m4, m5, m6, hz, okR_near, okR_near, okE_near, m7, m9] at hx
  rw [m8] at c1
  have c2 := Lib.hid hx
  clear hx
  have hr := Lib.hid (isbase_calls b)
  have hR : P % B < 36 := Nat.lt_of_lt_of_le (Nat.mod_lt P (Nat.lt_of_lt_of_le (by decide) h2)) h36
  have hd : decide (2 ≤ b ∧ b ≤ 36) = true := decide_eq_true ⟨by omega, by omega⟩
  rw [hd] at hr
  clear m1 m2 m3 m4 m5 m6 m7 m8 m9 hP ha hc hbI hz hb h2 h36 hd hl
  obtain ⟨x, hx⟩ : ∃ x, x = lo ((P / B : Nat) : Int) := ⟨_, rfl⟩
  obtain ⟨y, hy⟩ : ∃ x, x = hi ((P / B : Nat) : Int) := ⟨_, rfl⟩
  obtain ⟨R, hRR⟩ : ∃ x, x = P % B := ⟨_, rfl⟩
  rw [← hx, ← hRR] at c2
  rw [← hy] at c1
  rw [← hx, ← hy, ← hRR]
  rw [← hRR] at hR
  clear hx hy hRR
  have cC := Lib.hid (char_in R hR)
  clear hR
  go_enter Tryd.func51, Tryd.ntmps51
  go_wp2_with fail
  refine (hr.out _).mono ?_
  rintro e w1 ⟨rfl, rfl⟩
  obtain ⟨o0, o1⟩ := own2 w (.int .i64 a) (.int .i64 c) (.int .i64 0) (.int .i64 0)
  have hX := ((Ext.refl w).cells #[.int .i64 a, .int .i64 c] 57).cells #[.int .i64 0, .int .i64 0] 57
  clear hr
  go_wp2_with fail
  refine (c1.out _).mono ?_
  rintro e w2 ⟨rfl, hx2⟩
  replace o0 := o0.ext hx2
  replace o1 := o1.ext hx2
  replace hX := hX.trans hx2
  clear hx2 c1
  have p0 := o0.c0
  have p1 := o0.c1
  go_wp2_with fail
  refine (c2.out _).mono ?_
  rintro e w3 ⟨rfl, hx3⟩
  replace o1 := o1.ext hx3
  replace hX := hX.trans hx3
  clear hx3 c2 p0 p1 o0
  have g0 := o1.c0
  have g1 := o1.c1
  have f0 := o1.f0
  have f1 := o1.f1
  have lt := o1.lt
  go_wp2_with fail
  refine (cC.out _).mono ?_
  rintro e w4 ⟨rfl, rfl⟩
  go_wp2_with fail
  have o9 := o1.set (.int .i64 x) (.int .i64 y)
  have k0 := o9.c0
  have k1 := o9.c1
  refine bodyPost_ret (v := .tuple #[.agg #[.int .i64 x, .int .i64 y], .int .u8 ((letter R).toNat : Int)]) ?_ rfl ⟨rfl, (hX.set2 (n := w.heap.size + 1) (by omega) _ _)⟩
  simp [results, Tryd.results51, go_sem, k0, k1]
end Go.Proofs.YtheealjhmndbgaaDoor
