/- Layer 4 (package math): Ldexp of finite numbers without a sign: rounded once. Condition: the power is of at most five digits. -/
import Derived.Test.YthmdobajilladaaDoorR4C
namespace Go.Proofs.YthmdobajilladaaDoor
open Go.RowKit Ieee
set_option linter.unusedVariables false

theorem mul_pow (e : Int) (he : -1022 ≤ e ∧ e ≤ 1023) (T f : Nat) (h1 : 1 ≤ T) (h2 : T ≤ 2046) (hf : f < 4503599627370496) :
    floatBits .mul .f64 ((e + 1023).toNat * 4503599627370496) (T * 4503599627370496 + f) = some (double.nearest false (4503599627370496 + f) ((T : Int) - 1075 + e)) := by
  show double.mul _ _ = _
  obtain ⟨e1, e2⟩ := pow_word e he
  have e3 : rM (T * 4503599627370496 + f) = 4503599627370496 + f := by
    unfold rM
    rw [if_neg (by omega)]; omega
  have e4 : rE (T * 4503599627370496 + f) = (T : Int) - 1075 := by
    unfold rE
    rw [if_neg (by omega)]; omega
  rw [mul_nn (by omega) (by omega), e1, e2, e3, e4, Nat.mul_comm]
  have k := nearest_shift false (4503599627370496 + f) 52 ((T : Int) - 1075 + e) (by omega)
  have c : (2 : Nat) ^ 52 = 4503599627370496 := by decide
  rw [c] at k
  rw [← k]
  congr 2
  omega
set_option maxRecDepth 100000 in
theorem copysign_zero (y : Nat) (h : y < 9223372036854775808) (w : World) : Calls Tryd.prog 82 #[.float .f64 0, .float .f64 y] w fun e w' => e = .returned (.float .f64 0) ∧ w = w' := by
  have h1 : bits .andNot .u64 0 9223372036854775808 = 0 := by decide +kernel
  have h2 : bits .and .u64 (y : Int) 9223372036854775808 = 0 := by
    have k := u64_and_nat y 9223372036854775808 (by omega) (by decide)
    have c := and_sign false y h
    rw [word_f, word_f] at c
    rw [c] at k
    exact k
  have h3 : bits .or .u64 0 0 = 0 := by decide +kernel
  clear h
  go_enter Tryd.func82, Tryd.ntmps82
  go_wp2
  go_ret
  exact ⟨rfl, rfl⟩
set_option maxRecDepth 100000 in
theorem inf_calls (w : World) : Calls Tryd.prog 83 #[.int .i64 1] w fun e w' => e = .returned (.float .f64 9218868437227405312) ∧ w = w' := by
  go_enter Tryd.func83, Tryd.ntmps83
  go_wp2
  go_ret
  exact ⟨rfl, rfl⟩
theorem and_i64_all : ∀ q : Fin 2048, bits .and .i64 ((q.val : Nat) : Int) 2047 = ((q.val : Nat) : Int) := by decide +kernel
theorem bits_exp_i (q f : Nat) (hq : q ≤ 2046) (hf : f < 4503599627370496) : bits .and .i64 (((q : Int) * 4503599627370496 + (f : Int)) / 4503599627370496) 2047 = (q : Int) := by
  have e : ((q : Int) * 4503599627370496 + (f : Int)) / 4503599627370496 = ((q : Nat) : Int) := by omega
  rw [e]
  exact and_i64_all ⟨q, by omega⟩
set_option maxRecDepth 100000 in
theorem ldexp_tiny (r : Nat) (h0 : r ≠ 0) (hi : r < 9218868437227405312) (p : Int) (hp : -20000 ≤ p ∧ p ≤ 20000) (hc : nE r + p < -1127) (w : World) :
    Calls Tryd.prog 59 #[.float .f64 r, .int .i64 p] w fun e w' => e = .returned (.float .f64 0) ∧ w = w' := by
  have hz := order_zero h0 (Nat.le_of_lt hi)
  have hI := isinf0_calls r (Nat.le_of_lt hi)
  rw [decide_eq_false (by omega)] at hI
  have HI := Lib.hid hI
  have HN := Lib.hid (isnan_calls r false (isN_f (Nat.le_of_lt hi)))
  obtain ⟨q, f, e, q1, q2, hf, hM, hE, e1, e2, hn⟩ := normalize_calls r h0 hi
  have HZ := Lib.hid hn
  clear hn hI
  have hb := bits_exp_i q f q2 hf
  have hC := Lib.hid (copysign_zero (q * 4503599627370496 + f) (by omega))
  rw [hE] at hc
  clear hM hE h0 hi
  obtain ⟨p1, p2⟩ := hp
  go_enter Tryd.func59, Tryd.ntmps59
  go_wp2_with fail
  refine (HI.out _).mono ?_
  rintro e w1 ⟨rfl, rfl⟩
  go_wp2_with fail
  refine (HN.out _).mono ?_
  rintro e w1 ⟨rfl, rfl⟩
  go_wp2_with fail
  refine (HZ.out _).mono ?_
  rintro e w1 ⟨rfl, rfl⟩
  go_wp2_with fail
  refine (hC.out _).mono ?_
  rintro e w1 ⟨rfl, rfl⟩
  go_wp2_with fail
  go_ret
  exact ⟨rfl, rfl⟩
set_option maxRecDepth 100000 in
theorem ldexp_huge (r : Nat) (h0 : r ≠ 0) (hi : r < 9218868437227405312) (p : Int) (hp : -20000 ≤ p ∧ p ≤ 20000) (hc : 971 < nE r + p) (w : World) :
    Calls Tryd.prog 59 #[.float .f64 r, .int .i64 p] w fun e w' => e = .returned (.float .f64 9218868437227405312) ∧ w = w' := by
  have hz := order_zero h0 (Nat.le_of_lt hi)
  have hI := isinf0_calls r (Nat.le_of_lt hi)
  rw [decide_eq_false (by omega)] at hI
  have HI := Lib.hid hI
  have HN := Lib.hid (isnan_calls r false (isN_f (Nat.le_of_lt hi)))
  obtain ⟨q, f, e, q1, q2, hf, hM, hE, e1, e2, hn⟩ := normalize_calls r h0 hi
  have HZ := Lib.hid hn
  clear hn hI
  have hb := bits_exp_i q f q2 hf
  have hC := Lib.hid (inf_calls)
  have hl : (FloatKind.f64.format.order (q * 4503599627370496 + f) 0 == some .lt) = false := by
    rw [f64_order, order_gt (by omega) (by omega)]; rfl
  rw [hE] at hc
  clear hM hE h0 hi
  obtain ⟨p1, p2⟩ := hp
  go_enter Tryd.func59, Tryd.ntmps59
  go_wp2_with fail
  refine (HI.out _).mono ?_
  rintro e w1 ⟨rfl, rfl⟩
  go_wp2_with fail
  refine (HN.out _).mono ?_
  rintro e w1 ⟨rfl, rfl⟩
  go_wp2_with fail
  refine (HZ.out _).mono ?_
  rintro e w1 ⟨rfl, rfl⟩
  go_wp2_with fail
  refine (hC.out _).mono ?_
  rintro e w1 ⟨rfl, rfl⟩
  go_wp2_with fail
  go_ret
  exact ⟨rfl, rfl⟩
set_option maxRecDepth 100000 in
theorem ldexp_sub (r : Nat) (h0 : r ≠ 0) (hi : r < 9218868437227405312) (p : Int) (hp : -20000 ≤ p ∧ p ≤ 20000) (hc : -1127 ≤ nE r + p ∧ nE r + p < -1074) (w : World) :
    Calls Tryd.prog 59 #[.float .f64 r, .int .i64 p] w fun e w' => e = .returned (.float .f64 (double.nearest false (nM r) (nE r + p))) ∧ w = w' := by
  have hz := order_zero h0 (Nat.le_of_lt hi)
  have hI := isinf0_calls r (Nat.le_of_lt hi)
  rw [decide_eq_false (by omega)] at hI
  have HI := Lib.hid hI
  have HN := Lib.hid (isnan_calls r false (isN_f (Nat.le_of_lt hi)))
  obtain ⟨q, f, e, q1, q2, hf, hM, hE, e1, e2, hn⟩ := normalize_calls r h0 hi
  have HZ := Lib.hid hn
  clear hn hI
  have hb := bits_exp_i q f q2 hf
  have hcl := bits_clear q f q2 hf
  have hl : (FloatKind.f64.format.order (q * 4503599627370496 + f) 0 == some .lt) = false := by
    rw [f64_order, order_gt (by omega) (by omega)]; rfl
  obtain ⟨T, hT⟩ : ∃ T : Nat, (T : Int) = p + e + (q : Int) + 53 := ⟨(p + e + (q : Int) + 53).toNat, by omega⟩
  have T1 : 1 ≤ T := by omega
  have T2 : T ≤ 2046 := by omega
  have hm := mul_pow (-53) (by decide) T f T1 T2 hf
  rw [show (((-53) : Int) + 1023).toNat * 4503599627370496 = 4368491638549381120 by decide +kernel] at hm
  have hs := bits_set f T hf (by omega)
  obtain ⟨Y, hY⟩ : ∃ Y, Y = T * 4503599627370496 + f := ⟨_, rfl⟩
  rw [← hY] at hm hs
  have hr := fun W => run_float_arith (P := Tryd.prog) W .mul 47 .f64 _ _ _ hm
  have hsp : ((T * 4503599627370496 : Nat) : Int) = (p + e + ((q : Int) - 1023) + 53 + 1023) * 4503599627370496 := by omega
  rw [hsp] at hs
  have hTT : ((T : Int) - 1075 + (-53)) = nE r + p := by omega
  rw [hM, ← hTT]
  generalize double.nearest false (4503599627370496 + f) ((T : Int) - 1075 + (-53)) = res at *
  rw [hE] at hc
  clear hM hE h0 hi hm hTT hT hY hsp T1 T2
  clear T
  obtain ⟨p1, p2⟩ := hp
  obtain ⟨c1, c2⟩ := hc
  go_enter Tryd.func59, Tryd.ntmps59
  go_wp2_with fail
  refine (HI.out _).mono ?_
  rintro e w1 ⟨rfl, rfl⟩
  go_wp2_with fail
  refine (HN.out _).mono ?_
  rintro e w1 ⟨rfl, rfl⟩
  go_wp2_with fail
  refine (HZ.out _).mono ?_
  rintro e w1 ⟨rfl, rfl⟩
  go_wp2_with fail
  go_ret
  exact ⟨rfl, rfl⟩
set_option maxRecDepth 100000 in
theorem ldexp_norm (r : Nat) (h0 : r ≠ 0) (hi : r < 9218868437227405312) (p : Int) (hp : -20000 ≤ p ∧ p ≤ 20000) (hc : -1074 ≤ nE r + p ∧ nE r + p ≤ 971) (w : World) :
    Calls Tryd.prog 59 #[.float .f64 r, .int .i64 p] w fun e w' => e = .returned (.float .f64 (double.nearest false (nM r) (nE r + p))) ∧ w = w' := by
  have hz := order_zero h0 (Nat.le_of_lt hi)
  have hI := isinf0_calls r (Nat.le_of_lt hi)
  rw [decide_eq_false (by omega)] at hI
  have HI := Lib.hid hI
  have HN := Lib.hid (isnan_calls r false (isN_f (Nat.le_of_lt hi)))
  obtain ⟨q, f, e, q1, q2, hf, hM, hE, e1, e2, hn⟩ := normalize_calls r h0 hi
  have HZ := Lib.hid hn
  clear hn hI
  have hb := bits_exp_i q f q2 hf
  have hcl := bits_clear q f q2 hf
  have hl : (FloatKind.f64.format.order (q * 4503599627370496 + f) 0 == some .lt) = false := by
    rw [f64_order, order_gt (by omega) (by omega)]; rfl
  obtain ⟨T, hT⟩ : ∃ T : Nat, (T : Int) = p + e + (q : Int) + 0 := ⟨(p + e + (q : Int) + 0).toNat, by omega⟩
  have T1 : 1 ≤ T := by omega
  have T2 : T ≤ 2046 := by omega
  have hm := mul_pow 0 (by decide) T f T1 T2 hf
  rw [show ((0 : Int) + 1023).toNat * 4503599627370496 = 4607182418800017408 by decide +kernel] at hm
  have hs := bits_set f T hf (by omega)
  obtain ⟨Y, hY⟩ : ∃ Y, Y = T * 4503599627370496 + f := ⟨_, rfl⟩
  rw [← hY] at hm hs
  have hr := fun W => run_float_arith (P := Tryd.prog) W .mul 47 .f64 _ _ _ hm
  have hsp : ((T * 4503599627370496 : Nat) : Int) = (p + e + ((q : Int) - 1023) + 1023) * 4503599627370496 := by omega
  rw [hsp] at hs
  have hTT : ((T : Int) - 1075 + 0) = nE r + p := by omega
  rw [hM, ← hTT]
  generalize double.nearest false (4503599627370496 + f) ((T : Int) - 1075 + 0) = res at *
  rw [hE] at hc
  clear hM hE h0 hi hm hTT hT hY hsp T1 T2
  clear T
  obtain ⟨p1, p2⟩ := hp
  obtain ⟨c1, c2⟩ := hc
  go_enter Tryd.func59, Tryd.ntmps59
  go_wp2_with fail
  refine (HI.out _).mono ?_
  rintro e w1 ⟨rfl, rfl⟩
  go_wp2_with fail
  refine (HN.out _).mono ?_
  rintro e w1 ⟨rfl, rfl⟩
  go_wp2_with fail
  refine (HZ.out _).mono ?_
  rintro e w1 ⟨rfl, rfl⟩
  go_wp2_with fail
  go_ret
  exact ⟨rfl, rfl⟩
end Go.Proofs.YthmdobajilladaaDoor
