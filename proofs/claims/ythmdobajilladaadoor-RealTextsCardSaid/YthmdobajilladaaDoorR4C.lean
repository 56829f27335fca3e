/- Layer 4 (package math): IsInf, normalize, Frexp of finite numbers without a sign. No condition. -/
import Derived.Test.YthmdobajilladaaDoorR4B
import Derived.Test.YthmdobajilladaaDoorJF
namespace Go.Proofs.YthmdobajilladaaDoor
open Go.RowKit Ieee
set_option linter.unusedVariables false

theorem absW_f {r : Nat} (h : r < 9223372036854775808) : absW r = r := Nat.mod_eq_of_lt h
theorem f64_order (x y : Nat) : FloatKind.f64.format.order x y = double.order x y := rfl
theorem order_max {r : Nat} (h : r < 9218868437227405312) : (double.order r 9218868437227405311 == some .gt) = false := by
  by_cases k : r = 9218868437227405311
  · subst k; rw [order_eq (by decide)]; rfl
  · rw [order_lt (by omega) (by decide)]; rfl
theorem order_max_inf : (double.order 9218868437227405312 9218868437227405311 == some .gt) = true := by
  rw [order_gt (by decide) (by decide)]; rfl
set_option maxRecDepth 100000 in
theorem isinf0_calls (r : Nat) (h : r ≤ 9218868437227405312) (w : World) : Calls Tryd.prog 47 #[.float .f64 r, .int .i64 0] w fun e w' => e = .returned (.bool (decide (r = 9218868437227405312))) ∧ w = w' := by
  have ha := abs_calls r (by omega)
  rw [absW_f (by omega)] at ha
  have HA := Lib.hid ha
  clear ha
  by_cases k : r = 9218868437227405312
  · have hq : (FloatKind.f64.format.order r 9218868437227405311 == some .gt) = true := by rw [k]; exact order_max_inf
    rw [decide_eq_true k]
    clear k h
    go_enter Tryd.func47, Tryd.ntmps47
    go_wp2_with fail
    refine (HA.out _).mono ?_
    rintro e w1 ⟨rfl, rfl⟩
    go_wp2_with fail
    go_ret
    exact ⟨rfl, rfl⟩
  · have hq : (FloatKind.f64.format.order r 9218868437227405311 == some .gt) = false := order_max (by omega)
    rw [decide_eq_false k]
    clear k h
    go_enter Tryd.func47, Tryd.ntmps47
    go_wp2_with fail
    refine (HA.out _).mono ?_
    rintro e w1 ⟨rfl, rfl⟩
    go_wp2_with fail
    go_ret
    exact ⟨rfl, rfl⟩
set_option maxRecDepth 100000 in
theorem isinf1_calls (r : Nat) (h : r ≤ 9218868437227405312) (w : World) : Calls Tryd.prog 47 #[.float .f64 r, .int .i64 1] w fun e w' => e = .returned (.bool (decide (r = 9218868437227405312))) ∧ w = w' := by
  by_cases k : r = 9218868437227405312
  · have hq : (FloatKind.f64.format.order r 9218868437227405311 == some .gt) = true := by rw [k]; exact order_max_inf
    rw [decide_eq_true k]
    clear k h
    go_enter Tryd.func47, Tryd.ntmps47
    go_wp2_with fail
    go_ret
    exact ⟨rfl, rfl⟩
  · have hq : (FloatKind.f64.format.order r 9218868437227405311 == some .gt) = false := order_max (by omega)
    rw [decide_eq_false k]
    clear k h
    go_enter Tryd.func47, Tryd.ntmps47
    go_wp2_with fail
    go_ret
    exact ⟨rfl, rfl⟩
set_option maxRecDepth 100000 in
theorem normalize_big (r : Nat) (h : 4503599627370496 ≤ r) (hi : r < 9218868437227405312) (w : World) : Calls Tryd.prog 81 #[.float .f64 r] w fun e w' => e = .returned (.tuple #[.float .f64 r, .int .i64 0]) ∧ w = w' := by
  have ha := abs_calls r (by omega)
  rw [absW_f (by omega)] at ha
  have HA := Lib.hid ha
  clear ha
  have hq : (FloatKind.f64.format.order r 4503599627370496 == some .lt) = false := by
    rw [f64_order]
    by_cases k : r = 4503599627370496
    · subst k; rw [order_eq (by decide)]; rfl
    · rw [order_gt (by omega) (by omega)]; rfl
  clear h hi
  go_enter Tryd.func81, Tryd.ntmps81
  go_wp2_with fail
  refine (HA.out _).mono ?_
  rintro e w1 ⟨rfl, rfl⟩
  go_wp2_with fail
  go_ret2
  exact ⟨rfl, rfl⟩
set_option maxRecDepth 100000 in
theorem normalize_small (r : Nat) (h0 : r ≠ 0) (h : r < 4503599627370496) (w : World) : Calls Tryd.prog 81 #[.float .f64 r] w fun e w' => e = .returned (.tuple #[.float .f64 (rung (nM r) (nE r + 52)), .int .i64 (-52)]) ∧ w = w' := by
  have ha := abs_calls r (by omega)
  rw [absW_f (by omega)] at ha
  have HA := Lib.hid ha
  clear ha
  have hq : (FloatKind.f64.format.order r 4503599627370496 == some .lt) = true := by
    rw [f64_order, order_lt h (by decide)]; rfl
  have hr := fun W => run_float_arith (P := Tryd.prog) W .mul 47 .f64 r 4841369599423283200 _ (up52 h0 h)
  generalize rung (nM r) (nE r + 52) = y at *
  clear h0 h
  go_enter Tryd.func81, Tryd.ntmps81
  go_wp2_with fail
  refine (HA.out _).mono ?_
  rintro e w1 ⟨rfl, rfl⟩
  go_wp2_with fail
  go_ret2
  exact ⟨rfl, rfl⟩
/-- normalize of a finite number that is not 0: its fields are at hand. -/
theorem normalize_calls (r : Nat) (h0 : r ≠ 0) (hi : r < 9218868437227405312) : ∃ (q f : Nat) (e : Int), 1 ≤ q ∧ q ≤ 2046 ∧ f < 4503599627370496 ∧ nM r = 4503599627370496 + f ∧ nE r = (q : Int) - 1075 + e ∧ -52 ≤ e ∧ e ≤ 0 ∧
    ∀ w, Calls Tryd.prog 81 #[.float .f64 r] w fun e1 w' => e1 = .returned (.tuple #[.float .f64 (q * 4503599627370496 + f), .int .i64 e]) ∧ w = w' := by
  have hb := nM_bd h0 hi
  have hE := nE_bd hi
  by_cases k : r < 4503599627370496
  · have hlo : -1074 ≤ nE r + 52 := by omega
    have hhi : nE r + 52 ≤ 971 := by
      have : nE r = -1074 - (52 - r.log2 : Nat) := by unfold nE nK rE; rw [if_pos k, if_pos k]
      omega
    refine ⟨(nE r + 52 + 1075).toNat, nM r - 4503599627370496, -52, by omega, by omega, by omega, by omega, by omega, by omega, by omega, fun w => ?_⟩
    rw [norm_word _ _ hb.1 hb.2 hlo hhi]
    exact normalize_small r h0 k w
  · have hlo := hE.2.2 (by omega)
    have e1 : nM r = rM r := by unfold nM nK; rw [if_neg k, Nat.pow_zero, Nat.mul_one]
    have e2 : nE r = rE r := by unfold nE nK; rw [if_neg k]; simp
    refine ⟨(nE r + 1075).toNat, nM r - 4503599627370496, 0, by omega, by omega, by omega, by omega, by omega, by omega, by omega, fun w => ?_⟩
    rw [norm_word _ _ hb.1 hb.2 hlo hE.2.1, e1, e2, rung_back hi]
    exact normalize_big r (by omega) hi w
theorem order_zero {r : Nat} (h0 : r ≠ 0) (hi : r ≤ 9218868437227405312) : (FloatKind.f64.format.order r 0 == some .eq) = false := by
  rw [f64_order, order_gt (by omega) hi]; rfl
theorem isN_f {r : Nat} (hi : r ≤ 9218868437227405312) : isN r = false := by
  unfold isN
  by_cases k : r = 9218868437227405312
  · subst k; rw [read_nn_inf]; rfl
  · rw [read_nn (by omega)]; rfl
theorem bits_exp (q f : Nat) (hq : q ≤ 2046) (hf : f < 4503599627370496) : bits .and .u64 (((q : Int) * 4503599627370496 + (f : Int)) / 4503599627370496) 2047 = (q : Int) := by
  have e : ((q : Int) * 4503599627370496 + (f : Int)) / 4503599627370496 = ((q : Nat) : Int) := by omega
  rw [e]
  have k := u64_and_nat q 2047 (by omega) (by decide)
  rw [and_2047, Nat.mod_eq_of_lt (by omega)] at k
  exact k
theorem bits_clear (q f : Nat) (hq : q ≤ 2046) (hf : f < 4503599627370496) : bits .andNot .u64 ((q : Int) * 4503599627370496 + (f : Int)) 9218868437227405312 = (f : Int) := by
  have k := u64_andNot_nat (q * 4503599627370496 + f) 9218868437227405312 (by omega) (by decide)
  have c := clear_exp false (q * 4503599627370496 + f) (by omega)
  rw [word_f, word_f] at c
  have e : (q * 4503599627370496 + f) % 4503599627370496 = f := by omega
  rw [show 18446744073709551615 - 9218868437227405312 = 9227875636482146303 from rfl, c, e] at k
  have e2 : ((q * 4503599627370496 + f : Nat) : Int) = (q : Int) * 4503599627370496 + (f : Int) := by omega
  rw [e2] at k
  exact k
theorem bits_set (f e : Nat) (hf : f < 4503599627370496) (he : e < 2048) : bits .or .u64 (f : Int) ((e * 4503599627370496 : Nat) : Int) = ((e * 4503599627370496 + f : Nat) : Int) := by
  have k := u64_or_nat f (e * 4503599627370496) (by omega) (by omega)
  rw [or_exp e f hf] at k
  exact k
theorem ret_fi {a c : Nat} {b d : Int} (h : a = c) (k : b = d) : Ending.returned (.tuple #[.float .f64 a, .int .i64 b]) = .returned (.tuple #[.float .f64 c, .int .i64 d]) := by rw [h, k]
theorem frexp_frac (q f : Nat) (hq : q ≤ 2046) (hf : f < 4503599627370496) : (bits .or .u64 (bits .andNot .u64 ((q : Int) * 4503599627370496 + (f : Int)) 9218868437227405312) 4602678819172646912).toNat = 4602678819172646912 + (4503599627370496 + f - 4503599627370496) := by
  rw [bits_clear q f hq hf]
  have k := bits_set f 1022 hf (by decide)
  rw [show 1022 * 4503599627370496 = 4602678819172646912 from rfl] at k
  have k2 : bits .or .u64 (f : Int) 4602678819172646912 = ((4602678819172646912 + f : Nat) : Int) := k
  rw [k2]
  omega
set_option maxRecDepth 100000 in
theorem frexp_in (r : Nat) (h0 : r ≠ 0) (hi : r < 9218868437227405312) (w : World) : Calls Tryd.prog 66 #[.float .f64 r] w fun e w' => e = .returned (.tuple #[.float .f64 (4602678819172646912 + (nM r - 4503599627370496)), .int .i64 (nE r + 53)]) ∧ w = w' := by
  have hz := order_zero h0 (Nat.le_of_lt hi)
  have hI := isinf0_calls r (Nat.le_of_lt hi)
  rw [decide_eq_false (by omega)] at hI
  have HI := Lib.hid hI
  have HN := Lib.hid (isnan_calls r false (isN_f (Nat.le_of_lt hi)))
  obtain ⟨q, f, e, q1, q2, hf, hM, hE, e1, e2, hn⟩ := normalize_calls r h0 hi
  have HZ := Lib.hid hn
  clear hn hI
  rw [hM, hE]
  clear hM hE h0 hi
  go_enter Tryd.func66, Tryd.ntmps66
  go_wp2_with fail
  refine (HI.out _).mono ?_
  rintro e w1 ⟨rfl, rfl⟩
  go_wp2_with fail
  refine (HN.out _).mono ?_
  rintro e w1 ⟨rfl, rfl⟩
  go_wp2_with fail
  refine (HZ.out _).mono ?_
  rintro e w1 ⟨rfl, rfl⟩
  go_wp2_with fail
  go_ret2
  exact ⟨ret_fi (frexp_frac q f q2 hf) (by rw [bits_exp q f q2 hf]; unfold wrap64; omega), rfl⟩
theorem frexp_calls (r : Nat) (h0 : r ≠ 0) (hi : r < 9218868437227405312) (w : World) : Calls Tryd.prog 48 #[.float .f64 r] w fun e w' => e = .returned (.tuple #[.float .f64 (4602678819172646912 + (nM r - 4503599627370496)), .int .i64 (nE r + 53)]) ∧ w = w' := by
  have h := Lib.hid (frexp_in r h0 hi)
  generalize 4602678819172646912 + (nM r - 4503599627370496) = y at *
  generalize nE r + 53 = z at *
  clear h0 hi
  go_enter Tryd.func48, Tryd.ntmps48
  go_wp2_with fail
  refine (h.out _).mono ?_
  rintro e w1 ⟨rfl, rfl⟩
  go_wp2_with fail
  go_ret2
  exact ⟨rfl, rfl⟩
end Go.Proofs.YthmdobajilladaaDoor
