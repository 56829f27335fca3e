/- The document's answers for layer 2: what holds a pair beside a call; the loops. Condition: cells are integers of 64 bits. -/
import Derived.Test.YthmdobajilladaaDoorC2RefA
import Derived.Deep.RegionHeld3
namespace Go.Proofs.YthmdobajilladaaDoor
open Go.RowKit
set_option linter.unusedVariables false

theorem rof_held (w0 : World) (a : Int) (ha : I64 a) (w : World) (p q : Addr) (x y : Value) (h : (w.cell? p = some x ∧ w.cell? q = some y) ∧ Ext w0 w) :
    Calls Tryd.prog 53 #[.int .i64 a] w fun e w' => e = .returned (.agg #[.int .i64 (lo a), .int .i64 (hi a)]) ∧ ((w'.cell? p = some x ∧ w'.cell? q = some y) ∧ Ext w0 w') :=
  (rof_calls w a ha w (Ext.refl w)).mono fun e w' ⟨he, hx⟩ => ⟨he, ⟨ext_keeps hx h.1.1, ext_keeps hx h.1.2⟩, h.2.trans hx⟩
theorem fits_is (a b : Int) (ha : I64 a) (hb : I64 b) : (a == lo a && b == hi a) = decide (V a b = a) := by
  rw [(of_is a ha).1, (of_is a ha).2]
  have e := V_of a ha
  unfold V U; unfold I64 at *
  rw [Bool.eq_iff_iff]
  by_cases h : a < 0 <;> simp [h] <;> omega
theorem lo_twice (n : Int) : lo (2 * V (lo n) (hi n)) = lo (2 * n) ∧ hi (2 * V (lo n) (hi n)) = hi (2 * n) := by
  obtain ⟨k, hk⟩ := V_mk n
  exact same (2 * k) (by rw [hk]; omega)
theorem V_low (b : Int) : V b 0 = U b := by unfold V; omega
theorem umul_step (X m : Nat) (Y : Int) : 2 * ((X / 2 ^ (m + 1) : Nat) * Y) = ((X / 2 ^ m / 2 : Nat) : Int) * 2 * Y := by
  rw [Nat.pow_succ, ← Nat.div_div_eq_div_mul, ← Int.mul_assoc, Int.mul_comm 2]
theorem shr_nat_is (X m : Nat) : (X : Int) / 2 ^ m = ((X / 2 ^ m : Nat) : Int) := by
  rw [Int.natCast_ediv, Int.natCast_pow]; rfl
theorem natOf_U (a : Int) : (natOf a : Int) = U a := by rw [← natOf_is, u64_wrap]; rfl
theorem rtwice_mk (n : Int) (W : World) : Calls Tryd.prog 44 #[.agg #[.int .i64 (lo n), .int .i64 (hi n)]] W fun e w' => e = .returned (.agg #[.int .i64 (lo (2 * n)), .int .i64 (hi (2 * n))]) ∧ Ext W w' := by
  have h := rtwice_calls W (lo n) (hi n) (lo_i64 n) (hi_i64 n) W (Ext.refl W)
  rw [(lo_twice n).1, (lo_twice n).2] at h
  exact h
theorem radd_mk (n : Int) (c d : Int) (hc : I64 c) (hd : I64 d) (W : World) : Calls Tryd.prog 63 #[.agg #[.int .i64 (lo n), .int .i64 (hi n)], .agg #[.int .i64 c, .int .i64 d]] W fun e w' => e = .returned (.agg #[.int .i64 (lo (n + V c d)), .int .i64 (hi (n + V c d))]) ∧ Ext W w' := by
  have h := radd_calls W (lo n) (hi n) c d (lo_i64 n) (hi_i64 n) hc hd W (Ext.refl W)
  rw [(same_add n _).1, (same_add n _).2] at h
  exact h
theorem radd_low (b : Int) (hb : I64 b) (n : Int) (W : World) : Calls Tryd.prog 63 #[.agg #[.int .i64 (lo n), .int .i64 (hi n)], .agg #[.int .i64 b, .int .i64 0]] W fun e w' => e = .returned (.agg #[.int .i64 (lo (n + U b)), .int .i64 (hi (n + U b))]) ∧ Ext W w' := by
  have h := radd_mk n b 0 hb (by unfold I64; omega) W
  rw [V_low] at h
  exact h
set_option maxHeartbeats 2000000 in
set_option maxRecDepth 100000 in
theorem rumul_calls (w0 : World) (a b : Int) (ha : I64 a) (hb : I64 b) (w : World) (h : Ext w0 w) : Calls Tryd.prog 62 #[.int .i64 a, .int .i64 b] w fun e w' => e = .returned (.agg #[.int .i64 (lo (U a * U b)), .int .i64 (hi (U a * U b))]) ∧ Ext w0 w' := by
  have HXl := Lib.hid (natOf_lt a)
  rw [← natOf_U a]
  have ea := natOf_is a
  generalize natOf a = X at *
  have htw := Lib.hid rtwice_mk
  have hadd := Lib.hid (radd_low b hb)
  clear ha hb
  go_enter Tryd.func62, Tryd.ntmps62
  go_wp2
  clear ea
  have hs0 := h.1.size
  have o0 : Own ((w.alloc (.cells #[Value.int .i64 0, Value.int .i64 0] 56)).alloc (.cells #[Value.int .i64 0, Value.int .i64 0] 56)) w.heap.size (.int .i64 0) (.int .i64 0) := Own.last.alloc _ _
  have o1 : Own ((w.alloc (.cells #[Value.int .i64 0, Value.int .i64 0] 56)).alloc (.cells #[Value.int .i64 0, Value.int .i64 0] 56)) (w.heap.size + 1) (.int .i64 0) (.int .i64 0) := by
    have := Own.last (X := w.alloc (.cells #[Value.int .i64 0, Value.int .i64 0] 56)) (x := Value.int .i64 0) (y := Value.int .i64 0) (t := 56)
    rwa [size_alloc] at this
  have hE : Ext w0 ((w.alloc (.cells #[Value.int .i64 0, Value.int .i64 0] 56)).alloc (.cells #[Value.int .i64 0, Value.int .i64 0] 56)) := (h.cells _ _).cells _ _
  go_loopw [7] (fun i wr => ∃ k : Nat, k ≤ 64 ∧ i = .int .i64 (↑k - 1) ∧ Own wr (w.heap.size + 1) (.int .i64 (lo ((X / 2 ^ k : Nat) * U b))) (.int .i64 (hi ((X / 2 ^ k : Nat) * U b))) ∧ Own wr w.heap.size (.int .i64 0) (.int .i64 0) ∧ Ext w0 wr) (fun i _ => (intOf i + 1).toNat)
  case atStart =>
    have e : X / 2 ^ 64 = 0 := Nat.div_eq_of_lt HXl.out
    refine ⟨64, by omega, rfl, ?_, o0, hE⟩
    rw [e]
    simpa [lo, hi, wrap64] using o1
  case round =>
    obtain ⟨k, hk, rfl, p1, p0, hx⟩ := hrel
    clear o0 o1 hE
    cases k with
    | zero =>
      rw [show ((0 : Nat) : Int) - 1 = -1 from rfl]
      have c0 := p1.c0
      have c1 := p1.c1
      have d0 := p0.c0
      have d1 := p0.c1
      have f0 := p0.f0
      have f1 := p0.f1
      have lt := p0.lt
      go_wp2
      refine bodyPost_ret (v := .agg #[.int .i64 (lo (X * U b)), .int .i64 (hi (X * U b))]) ?_ rfl ⟨rfl, hx.set2 hs0 _ _⟩
      simp [results, Tryd.results62, go_sem, d0, d1]
    | succ m =>
      rw [show ((m + 1 : Nat) : Int) - 1 = (m : Int) from by omega]
      have es := shr_nat_is X m
      have hq : X / 2 ^ (m + 1) = X / 2 ^ m / 2 := by rw [Nat.pow_succ, Nat.div_div_eq_div_mul]
      rw [hq] at p1
      clear hq
      obtain ⟨p, hp⟩ : ∃ p, p = X / 2 ^ m := ⟨_, rfl⟩
      rw [← hp] at es p1
      have Hp := Lib.hid hp
      clear hp
      obtain ⟨q, hq⟩ : ∃ q, q = p / 2 := ⟨_, rfl⟩
      rw [← hq] at p1
      have Hq := Lib.hid hq
      clear hq
      have c0 := p1.c0
      have c1 := p1.c1
      have m0 : (0 : Int) ≤ m := by omega
      have m1 : m ≤ 64 := by omega
      have m2 : (m : Int) ≤ 64 := by omega
      go_wp2_with fail
      refine (htw.out _ _).mono ?_
      rintro e w' ⟨rfl, hx1⟩
      have p1' := p1.ext hx1
      have p0' := p0.ext hx1
      have hx' := hx.trans hx1
      clear c0 c1 p1 p0 hx hx1
      have c0 := p1'.c0
      have c1 := p1'.c1
      have f0 := p1'.f0
      have f1 := p1'.f1
      have n0 := p1'.lt
      rcases (show p % 2 = 0 ∨ p % 2 = 1 by omega) with hz | hz
      · have ez : ((p : Int) % 2 == 1) = false := by simp; omega
        have E : RowKit.Hid (2 * ((q : Int) * U b) = (p : Int) * U b) := Lib.hid (by rw [← Int.mul_assoc]; congr 1; have := Hq.out; omega)
        clear hz
        go_wp2
        go_roundw
        case rel => exact ⟨m, by omega, rfl, by rw [← Hp.out, ← E.out]; exact p1'.set _ _, p0'.other (by omega) _ _, hx'.set2 (by omega) _ _⟩
        case measure => simp [intOf]
      · have ez : ((p : Int) % 2 == 1) = true := by simp; omega
        have E : RowKit.Hid (2 * ((q : Int) * U b) + U b = (p : Int) * U b) := Lib.hid (by rw [← Int.mul_assoc, show (p : Int) = 2 * q + 1 from by have := Hq.out; omega, Int.add_mul, Int.one_mul])
        clear hz
        go_wp2_with fail
        refine (hadd.out _ _).mono ?_
        rintro e w'' ⟨rfl, hx2⟩
        have p2 := (p1'.set _ _).ext hx2
        have p3 := (p0'.other (b' := w.heap.size + 1) (by omega) _ _).ext hx2
        have hx3 := (hx'.set2 (n := w.heap.size + 1) (by omega) _ _).trans hx2
        clear c0 c1 f0 f1 n0 p1' p0' hx' hx2
        have c0 := p2.c0
        have c1 := p2.c1
        have f0 := p2.f0
        have f1 := p2.f1
        have n0 := p2.lt
        go_wp2
        go_roundw
        case rel => exact ⟨m, by omega, rfl, by rw [← Hp.out, ← E.out]; exact p2.set _ _, p3.other (by omega) _ _, hx3.set2 (by omega) _ _⟩
        case measure => simp [intOf]

theorem hi_sub (n t : Int) : lo (n - 18446744073709551616 * t) = lo n ∧ hi (n - 18446744073709551616 * t) = wrap64 (hi n - t) := by
  unfold lo hi wrap64; omega
theorem hi_mod (n t : Int) : lo (n + 18446744073709551616 * (18446744073709551616 * t)) = lo n ∧ hi (n + 18446744073709551616 * (18446744073709551616 * t)) = hi n := by
  unfold lo hi wrap64; omega
theorem U_is (a : Int) (ha : I64 a) : U a = a + 18446744073709551616 * (if a < 0 then 1 else 0) := by
  unfold U; unfold I64 at ha; split <;> omega
theorem mul_parts (a b s t : Int) : a * b = (a + 18446744073709551616 * s) * (b + 18446744073709551616 * t) - 18446744073709551616 * (s * b + t * a) + 18446744073709551616 * (18446744073709551616 * (-(s * t))) := by
  rw [Int.add_mul, Int.mul_add, Int.mul_add]
  have e1 : a * (18446744073709551616 * t) = 18446744073709551616 * (t * a) := by rw [Int.mul_left_comm, Int.mul_comm a t]
  have e2 : 18446744073709551616 * s * b = 18446744073709551616 * (s * b) := by rw [Int.mul_assoc]
  have e3 : 18446744073709551616 * s * (18446744073709551616 * t) = 18446744073709551616 * (18446744073709551616 * (s * t)) := by rw [Int.mul_assoc, Int.mul_left_comm s]
  rw [e1, e2, e3]
  omega
theorem mul_is (a b : Int) (ha : I64 a) (hb : I64 b) : lo (a * b) = lo (U a * U b) ∧ hi (a * b) = if b < 0 then wrap64 ((if a < 0 then wrap64 (hi (U a * U b) - b) else hi (U a * U b)) - a) else (if a < 0 then wrap64 (hi (U a * U b) - b) else hi (U a * U b)) := by
  have e := mul_parts a b (if a < 0 then 1 else 0) (if b < 0 then 1 else 0)
  rw [← U_is a ha, ← U_is b hb] at e
  rw [e, (hi_mod _ _).1, (hi_mod _ _).2, (hi_sub _ _).1, (hi_sub _ _).2]
  refine ⟨rfl, ?_⟩
  have hI := hi_i64 (U a * U b)
  by_cases na : a < 0 <;> by_cases nb : b < 0 <;> simp only [na, nb, if_true, if_false, Int.one_mul, Int.zero_mul, Int.add_zero, Int.zero_add, Int.sub_zero]
  · rw [wrap_sub_l, Int.sub_sub]
  · exact wrap_id hI
end Go.Proofs.YthmdobajilladaaDoor
