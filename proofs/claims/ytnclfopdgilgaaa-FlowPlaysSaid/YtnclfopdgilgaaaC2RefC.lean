/- The document's answers for layer 2: the long division, bit by bit. Condition: cells are integers of 64 bits, and the divisor is not 0. -/
import Derived.Test.YtnclfopdgilgaaaC2RefB
namespace Go.Proofs.Ytnclfopdgilgaaa
open Go.RowKit
set_option linter.unusedVariables false

def big : Nat := 340282366920938463463374607431768211456
def high (N : Nat) : Nat := N / big
theorem same_add2 (n m : Int) : lo (V (lo n) (hi n) + V (lo m) (hi m)) = lo (n + m) ∧ hi (V (lo n) (hi n) + V (lo m) (hi m)) = hi (n + m) := by
  obtain ⟨k, hk⟩ := V_mk n
  obtain ⟨j, hj⟩ := V_mk m
  exact same (k + j) (by rw [hk, hj]; omega)
theorem radd_two (n m : Int) (W : World) : Calls Try.prog 68 #[.agg #[.int .i64 (lo n), .int .i64 (hi n)], .agg #[.int .i64 (lo m), .int .i64 (hi m)]] W fun e w' => e = .returned (.agg #[.int .i64 (lo (n + m)), .int .i64 (hi (n + m))]) ∧ Ext W w' := by
  have h := radd_calls W (lo n) (hi n) (lo m) (hi m) (lo_i64 n) (hi_i64 n) (lo_i64 m) (hi_i64 m) W (Ext.refl W)
  rw [(same_add2 n m).1, (same_add2 n m).2] at h
  exact h
theorem radd_one (n : Int) (W : World) : Calls Try.prog 68 #[.agg #[.int .i64 (lo n), .int .i64 (hi n)], .agg #[.int .i64 1, .int .i64 0]] W fun e w' => e = .returned (.agg #[.int .i64 (lo (n + 1)), .int .i64 (hi (n + 1))]) ∧ Ext W w' := by
  have h := radd_mk n 1 0 (by unfold I64; omega) (by unfold I64; omega) W
  rw [V_one] at h
  exact h
theorem rneg_low (b : Int) (hb : I64 b) (W : World) : Calls Try.prog 61 #[.agg #[.int .i64 b, .int .i64 0]] W fun e w' => e = .returned (.agg #[.int .i64 (lo (-U b)), .int .i64 (hi (-U b))]) ∧ Ext W w' := by
  have h := rneg_calls W b 0 hb (by unfold I64; omega) W (Ext.refl W)
  rw [V_low] at h
  exact h
theorem W_mk (n : Int) (h0 : 0 ≤ n) (h1 : n ≤ 340282366920938463463374607431768211455) : W (lo n) (hi n) = n := by
  unfold W U lo hi wrap64; omega
theorem W_low (b : Int) : W b 0 = U b := by unfold W U; omega
theorem ruless_low (n : Int) (h0 : 0 ≤ n) (h1 : n ≤ 340282366920938463463374607431768211455) (b : Int) (hb : I64 b) (X : World) : Calls Try.prog 74 #[.agg #[.int .i64 (lo n), .int .i64 (hi n)], .agg #[.int .i64 b, .int .i64 0]] X fun e w' => e = .returned (.bool (decide (n < U b))) ∧ Ext X w' := by
  have h := ruless_calls X (lo n) (hi n) b 0 (lo_i64 n) (hi_i64 n) hb (by unfold I64; omega) X (Ext.refl X)
  rw [W_mk n h0 h1, W_low] at h
  exact h

theorem high_step (N : Nat) : high (2 * N) = 2 * high N + (if hi (N : Int) < 0 then 1 else 0) := by
  unfold high big hi wrap64
  split <;> omega
theorem div_step (T B c : Nat) (hB : 0 < B) : (2 * T + c) / B = 2 * (T / B) + (2 * (T % B) + c) / B ∧ (2 * T + c) % B = (2 * (T % B) + c) % B := by
  have e : 2 * T + c = (2 * (T % B) + c) + B * (2 * (T / B)) := by
    have := Nat.div_add_mod T B
    rw [Nat.mul_left_comm]
    omega
  rw [e, Nat.add_mul_div_left _ _ hB, Nat.add_mul_mod_self_left]
  exact ⟨by omega, rfl⟩
theorem rest_step (L B c : Nat) (hL : L < B) (hc : c ≤ 1) : (2 * L + c) / B = (if B ≤ 2 * L + c then 1 else 0) ∧ (2 * L + c) % B = (if B ≤ 2 * L + c then 2 * L + c - B else 2 * L + c) := by
  by_cases h : B ≤ 2 * L + c
  · rw [if_pos h, if_pos h, Nat.mod_eq_sub_mod h, Nat.mod_eq_of_lt (by omega)]
    refine ⟨?_, rfl⟩
    rw [Nat.div_eq_sub_div (by omega) h, Nat.div_eq_of_lt (by omega)]
  · rw [if_neg h, if_neg h, Nat.mod_eq_of_lt (by omega), Nat.div_eq_of_lt (by omega)]
    exact ⟨rfl, rfl⟩

/-- The four blocks of the long division: what is divided, the result's, what is left, the quotient. -/
structure Four (w0 w : World) (b : Nat) (p0 p1 l0 l1 q0 q1 : Value) : Prop where
  p : Own w b p0 p1
  r : Own w (b + 1) (.int .i64 0) (.int .i64 0)
  l : Own w (b + 1 + 1) l0 l1
  q : Own w (b + 1 + 1 + 1) q0 q1
  x : Ext w0 w
  le : w0.heap.size ≤ b
theorem Four.ext {w0 w w' : World} {b : Nat} {p0 p1 l0 l1 q0 q1 : Value} (h : Four w0 w b p0 p1 l0 l1 q0 q1) (k : Ext w w') : Four w0 w' b p0 p1 l0 l1 q0 q1 :=
  ⟨h.p.ext k, h.r.ext k, h.l.ext k, h.q.ext k, h.x.trans k, h.le⟩
theorem Four.setP {w0 w : World} {b : Nat} {p0 p1 l0 l1 q0 q1 : Value} (h : Four w0 w b p0 p1 l0 l1 q0 q1) (u v : Value) : Four w0 ((w.setCell ⟨b, 0, none⟩ u).setCell ⟨b, 1, none⟩ v) b u v l0 l1 q0 q1 :=
  ⟨h.p.set u v, h.r.other (by omega) u v, h.l.other (by omega) u v, h.q.other (by omega) u v, h.x.set2 h.le u v, h.le⟩
theorem Four.setL {w0 w : World} {b : Nat} {p0 p1 l0 l1 q0 q1 : Value} (h : Four w0 w b p0 p1 l0 l1 q0 q1) (u v : Value) : Four w0 ((w.setCell ⟨b + 1 + 1, 0, none⟩ u).setCell ⟨b + 1 + 1, 1, none⟩ v) b p0 p1 u v q0 q1 :=
  ⟨h.p.other (by omega) u v, h.r.other (by omega) u v, h.l.set u v, h.q.other (by omega) u v, h.x.set2 (by have := h.le; omega) u v, h.le⟩
theorem Four.setQ {w0 w : World} {b : Nat} {p0 p1 l0 l1 q0 q1 : Value} (h : Four w0 w b p0 p1 l0 l1 q0 q1) (u v : Value) : Four w0 ((w.setCell ⟨b + 1 + 1 + 1, 0, none⟩ u).setCell ⟨b + 1 + 1 + 1, 1, none⟩ v) b p0 p1 l0 l1 u v :=
  ⟨h.p.other (by omega) u v, h.r.other (by omega) u v, h.l.other (by omega) u v, h.q.set u v, h.x.set2 (by have := h.le; omega) u v, h.le⟩

set_option maxHeartbeats 4000000 in
set_option maxRecDepth 100000 in
theorem rlong_calls (w0 : World) (a c b : Int) (ha : I64 a) (hc : I64 c) (hb : I64 b) (hz : b ≠ 0) (P B : Nat) (hP : W a c = P) (hB : U b = B) (w : World) (h : Ext w0 w) :
    Calls Try.prog 72 #[.agg #[.int .i64 a, .int .i64 c], .int .i64 b] w fun e w' => e = .returned (.tuple #[.int .i64 (lo ((P % B : Nat) : Int)), .agg #[.int .i64 (lo ((P / B : Nat) : Int)), .int .i64 (hi ((P / B : Nat) : Int))]]) ∧ Ext w0 w' := by
  have HB : RowKit.Hid (0 < B ∧ B ≤ 18446744073709551615) := by
    have h1 := U_bd b
    have h2 : U b ≠ 0 := by unfold U; unfold I64 at hb; omega
    exact Lib.hid (by omega)
  have HP : RowKit.Hid (P < big ∧ a = lo (P : Int) ∧ c = hi (P : Int)) := by
    have h1 := W_bd a c
    obtain ⟨k, hk⟩ := W_V a c
    rw [hP] at hk h1
    refine Lib.hid ⟨by unfold big; omega, ?_, ?_⟩
    · rw [hk, lo_off, lo_V ha]
    · rw [hk, hi_off, hi_V hc]
  have htw := Lib.hid rtwice_mk
  have hone := Lib.hid radd_one
  have htwo := Lib.hid radd_two
  have hneg := Lib.hid (rneg_low b hb)
  have hul := Lib.hid (fun n h0 h1 X => ruless_low n h0 h1 b hb X)
  clear ha hc hb hz hP
  go_enter Try.func72, Try.ntmps72
  go_wp2
  have hs0 := h.1.size
  have F0 : Four w0 ((((w.alloc (.cells #[Value.int .i64 a, Value.int .i64 c] 84)).alloc (.cells #[Value.int .i64 0, Value.int .i64 0] 84)).alloc (.cells #[Value.int .i64 0, Value.int .i64 0] 84)).alloc (.cells #[Value.int .i64 0, Value.int .i64 0] 84)) w.heap.size (.int .i64 a) (.int .i64 c) (.int .i64 0) (.int .i64 0) (.int .i64 0) (.int .i64 0) := by
    refine ⟨((Own.last.alloc _ _).alloc _ _).alloc _ _, ?_, ?_, ?_, (((h.cells _ _).cells _ _).cells _ _).cells _ _, hs0⟩
    · have := (Own.last (X := w.alloc (.cells #[Value.int .i64 a, Value.int .i64 c] 84)) (x := Value.int .i64 0) (y := Value.int .i64 0) (t := 84))
      rw [size_alloc] at this
      exact (this.alloc _ _).alloc _ _
    · have := (Own.last (X := (w.alloc (.cells #[Value.int .i64 a, Value.int .i64 c] 84)).alloc (.cells #[Value.int .i64 0, Value.int .i64 0] 84)) (x := Value.int .i64 0) (y := Value.int .i64 0) (t := 84))
      rw [size_alloc, size_alloc] at this
      exact this.alloc _ _
    · have := (Own.last (X := ((w.alloc (.cells #[Value.int .i64 a, Value.int .i64 c] 84)).alloc (.cells #[Value.int .i64 0, Value.int .i64 0] 84)).alloc (.cells #[Value.int .i64 0, Value.int .i64 0] 84)) (x := Value.int .i64 0) (y := Value.int .i64 0) (t := 84))
      rw [size_alloc, size_alloc, size_alloc] at this
      exact this
  go_loopw [8] (fun i wr => ∃ k N : Nat, k ≤ 128 ∧ i = .int .i64 k ∧ N = P * 2 ^ k ∧ Four w0 wr w.heap.size (.int .i64 (lo (N : Int))) (.int .i64 (hi (N : Int))) (.int .i64 (lo ((high N % B : Nat) : Int))) (.int .i64 (hi ((high N % B : Nat) : Int))) (.int .i64 (lo ((high N / B : Nat) : Int))) (.int .i64 (hi ((high N / B : Nat) : Int)))) (fun i _ => 128 - (intOf i).toNat)
  case atStart =>
    have e : high P = 0 := Nat.div_eq_of_lt HP.out.1
    refine ⟨0, P, by omega, rfl, by simp, ?_⟩
    rw [← HP.out.2.1, ← HP.out.2.2, e]
    simpa [lo, hi, wrap64] using F0
  case round =>
    obtain ⟨k, N, hk, rfl, hN, F⟩ := hrel
    clear F0
    have HN := Lib.hid hN
    clear hN
    by_cases hlt : k < 128
    · have hst := high_step N
      obtain ⟨hd1, hd2⟩ := div_step (high N) B (if hi (N : Int) < 0 then 1 else 0) HB.out.1
      rw [← hst] at hd1 hd2
      have hL : high N % B < B := Nat.mod_lt _ HB.out.1
      have hNe : 2 * N = P * 2 ^ (k + 1) := by rw [HN.out, Nat.pow_succ, Nat.mul_left_comm, Nat.mul_comm 2]
      have HNe := Lib.hid hNe
      clear hst hNe
      generalize high N % B = L at *
      generalize high N / B = Q at *
      by_cases hn : hi (N : Int) < 0
      · rw [if_pos hn] at hd1 hd2
        obtain ⟨r1, r2⟩ := rest_step L B 1 hL (by decide)
        rw [r1] at hd1
        rw [r2] at hd2
        clear r1 r2
        by_cases hge : B ≤ 2 * L + 1
        · rw [if_pos hge] at hd1 hd2
          have HD1 : RowKit.Hid (((high (2 * N) / B : Nat) : Int) = 2 * (Q : Int) + 1) := Lib.hid (by rw [hd1]; rfl)
          have HD2 : RowKit.Hid (((high (2 * N) % B : Nat) : Int) = 2 * (L : Int) + 1 + -U b) := Lib.hid (by rw [hd2, hB]; clear hd1 hd2 F; omega)
          clear hd1 hd2
          have ez : decide (2 * (L : Int) + 1 < U b) = false := by rw [hB]; simp; omega
          have Z0 : RowKit.Hid (0 ≤ 2 * (L : Int) + 1) := Lib.hid (by omega)
          have Z1 : RowKit.Hid (2 * (L : Int) + 1 ≤ 340282366920938463463374607431768211455) := Lib.hid (by have := HB.out.2; omega)
          have HU := Lib.hid (fun X => by have h := hul.out (2 * (L : Int) + 1) Z0.out Z1.out X; rw [ez] at h; exact h)
          have HL := Lib.hid hL
          have HB2 := Lib.hid hB
          clear hge hL hB ez Z0 Z1
          have en : decide (hi (N : Int) < 0) = true := by simpa using hn
          clear hn
          have pc0 := F.p.c0
          have pc1 := F.p.c1
          have pf0 := F.p.f0
          have pf1 := F.p.f1
          have lc0 := F.l.c0
          have lc1 := F.l.c1
          have lf0 := F.l.f0
          have lf1 := F.l.f1
          have qc0 := F.q.c0
          have qc1 := F.q.c1
          have qf0 := F.q.f0
          have qf1 := F.q.f1
          have qlt := F.q.lt
          go_wp2_with fail
          refine (htw.out _ _).mono ?_
          rintro e w' ⟨rfl, hx1⟩
          clear pc0 pc1 pf0 pf1 lc0 lc1 lf0 lf1 qc0 qc1 qf0 qf1 qlt
          replace F := F.ext hx1
          clear hx1
          have pc0 := F.p.c0
          have pc1 := F.p.c1
          have pf0 := F.p.f0
          have pf1 := F.p.f1
          have lc0 := F.l.c0
          have lc1 := F.l.c1
          have lf0 := F.l.f0
          have lf1 := F.l.f1
          have qc0 := F.q.c0
          have qc1 := F.q.c1
          have qf0 := F.q.f0
          have qf1 := F.q.f1
          have qlt := F.q.lt
          go_wp2_with fail
          refine (hone.out _ _).mono ?_
          rintro e w' ⟨rfl, hx1⟩
          clear pc0 pc1 pf0 pf1 lc0 lc1 lf0 lf1 qc0 qc1 qf0 qf1 qlt
          replace F := (F.setL _ _).ext hx1
          clear hx1
          have pc0 := F.p.c0
          have pc1 := F.p.c1
          have pf0 := F.p.f0
          have pf1 := F.p.f1
          have lc0 := F.l.c0
          have lc1 := F.l.c1
          have lf0 := F.l.f0
          have lf1 := F.l.f1
          have qc0 := F.q.c0
          have qc1 := F.q.c1
          have qf0 := F.q.f0
          have qf1 := F.q.f1
          have qlt := F.q.lt
          go_wp2_with fail
          refine (htw.out _ _).mono ?_
          rintro e w' ⟨rfl, hx1⟩
          clear pc0 pc1 pf0 pf1 lc0 lc1 lf0 lf1 qc0 qc1 qf0 qf1 qlt
          replace F := (F.setL _ _).ext hx1
          clear hx1
          have pc0 := F.p.c0
          have pc1 := F.p.c1
          have pf0 := F.p.f0
          have pf1 := F.p.f1
          have lc0 := F.l.c0
          have lc1 := F.l.c1
          have lf0 := F.l.f0
          have lf1 := F.l.f1
          have qc0 := F.q.c0
          have qc1 := F.q.c1
          have qf0 := F.q.f0
          have qf1 := F.q.f1
          have qlt := F.q.lt
          go_wp2_with fail
          refine (htw.out _ _).mono ?_
          rintro e w' ⟨rfl, hx1⟩
          clear pc0 pc1 pf0 pf1 lc0 lc1 lf0 lf1 qc0 qc1 qf0 qf1 qlt
          replace F := (F.setP _ _).ext hx1
          clear hx1
          have pc0 := F.p.c0
          have pc1 := F.p.c1
          have pf0 := F.p.f0
          have pf1 := F.p.f1
          have lc0 := F.l.c0
          have lc1 := F.l.c1
          have lf0 := F.l.f0
          have lf1 := F.l.f1
          have qc0 := F.q.c0
          have qc1 := F.q.c1
          have qf0 := F.q.f0
          have qf1 := F.q.f1
          have qlt := F.q.lt
          go_wp2_with fail
          refine (HU.out _).mono ?_
          rintro e w' ⟨rfl, hx1⟩
          clear pc0 pc1 pf0 pf1 lc0 lc1 lf0 lf1 qc0 qc1 qf0 qf1 qlt
          replace F := (F.setQ _ _).ext hx1
          clear hx1
          have pc0 := F.p.c0
          have pc1 := F.p.c1
          have pf0 := F.p.f0
          have pf1 := F.p.f1
          have lc0 := F.l.c0
          have lc1 := F.l.c1
          have lf0 := F.l.f0
          have lf1 := F.l.f1
          have qc0 := F.q.c0
          have qc1 := F.q.c1
          have qf0 := F.q.f0
          have qf1 := F.q.f1
          have qlt := F.q.lt
          go_wp2_with fail
          have Fd := F.ext (Ext.drew (Ext.refl _))
          go_region_with (first | (go_at_call 61; refine (hneg.out _).mono ?_; rintro e w1 ⟨rfl, hx0⟩; have F1 := Fd.ext hx0; clear hx0; have kc0 := F1.l.c0; have kc1 := F1.l.c1) | (go_at_call 68; refine (htwo.out _ _ _).mono ?_; rintro e w2 ⟨rfl, hx0⟩; have F2 := F1.ext hx0; clear hx0; have mc0 := F2.l.c0; have mc1 := F2.l.c1; have mf0 := F2.l.f0; have mf1 := F2.l.f1; have mlt := F2.q.lt))
          all_goals
            clear pc0 pc1 pf0 pf1 lc0 lc1 lf0 lf1 qc0 qc1 qf0 qf1 qlt kc0 kc1 Fd
            have qc0 := F2.q.c0
            have qc1 := F2.q.c1
            have qf0 := F2.q.f0
            have qf1 := F2.q.f1
            go_wp2_with fail
            refine (hone.out _ _).mono ?_
            rintro e w3 ⟨rfl, hx1⟩
            have F4 := (F2.setL _ _).ext hx1
            clear hx1 qc0 qc1 qf0 qf1 mc0 mc1 mf0 mf1 mlt
            have qc0 := F4.q.c0
            have qc1 := F4.q.c1
            have qf0 := F4.q.f0
            have qf1 := F4.q.f1
            have qlt := F4.q.lt
            go_wp2
            go_roundw
            case rel => exact ⟨k + 1, 2 * N, by omega, by go_num, HNe.out, by rw [HD1.out, HD2.out]; exact F4.setQ _ _⟩
            case measure => simp [intOf]; omega
        · rw [if_neg hge] at hd1 hd2
          have HD1 : RowKit.Hid (((high (2 * N) / B : Nat) : Int) = 2 * (Q : Int)) := Lib.hid (by rw [hd1]; rfl)
          have HD2 : RowKit.Hid (((high (2 * N) % B : Nat) : Int) = 2 * (L : Int) + 1) := Lib.hid (by rw [hd2]; rfl)
          clear hd1 hd2
          have ez : decide (2 * (L : Int) + 1 < U b) = true := by rw [hB]; simp; omega
          have Z0 : RowKit.Hid (0 ≤ 2 * (L : Int) + 1) := Lib.hid (by omega)
          have Z1 : RowKit.Hid (2 * (L : Int) + 1 ≤ 340282366920938463463374607431768211455) := Lib.hid (by have := HB.out.2; omega)
          have HU := Lib.hid (fun X => by have h := hul.out (2 * (L : Int) + 1) Z0.out Z1.out X; rw [ez] at h; exact h)
          have HL := Lib.hid hL
          have HB2 := Lib.hid hB
          clear hge hL hB ez Z0 Z1
          have en : decide (hi (N : Int) < 0) = true := by simpa using hn
          clear hn
          have pc0 := F.p.c0
          have pc1 := F.p.c1
          have pf0 := F.p.f0
          have pf1 := F.p.f1
          have lc0 := F.l.c0
          have lc1 := F.l.c1
          have lf0 := F.l.f0
          have lf1 := F.l.f1
          have qc0 := F.q.c0
          have qc1 := F.q.c1
          have qf0 := F.q.f0
          have qf1 := F.q.f1
          have qlt := F.q.lt
          go_wp2_with fail
          refine (htw.out _ _).mono ?_
          rintro e w' ⟨rfl, hx1⟩
          clear pc0 pc1 pf0 pf1 lc0 lc1 lf0 lf1 qc0 qc1 qf0 qf1 qlt
          replace F := F.ext hx1
          clear hx1
          have pc0 := F.p.c0
          have pc1 := F.p.c1
          have pf0 := F.p.f0
          have pf1 := F.p.f1
          have lc0 := F.l.c0
          have lc1 := F.l.c1
          have lf0 := F.l.f0
          have lf1 := F.l.f1
          have qc0 := F.q.c0
          have qc1 := F.q.c1
          have qf0 := F.q.f0
          have qf1 := F.q.f1
          have qlt := F.q.lt
          go_wp2_with fail
          refine (hone.out _ _).mono ?_
          rintro e w' ⟨rfl, hx1⟩
          clear pc0 pc1 pf0 pf1 lc0 lc1 lf0 lf1 qc0 qc1 qf0 qf1 qlt
          replace F := (F.setL _ _).ext hx1
          clear hx1
          have pc0 := F.p.c0
          have pc1 := F.p.c1
          have pf0 := F.p.f0
          have pf1 := F.p.f1
          have lc0 := F.l.c0
          have lc1 := F.l.c1
          have lf0 := F.l.f0
          have lf1 := F.l.f1
          have qc0 := F.q.c0
          have qc1 := F.q.c1
          have qf0 := F.q.f0
          have qf1 := F.q.f1
          have qlt := F.q.lt
          go_wp2_with fail
          refine (htw.out _ _).mono ?_
          rintro e w' ⟨rfl, hx1⟩
          clear pc0 pc1 pf0 pf1 lc0 lc1 lf0 lf1 qc0 qc1 qf0 qf1 qlt
          replace F := (F.setL _ _).ext hx1
          clear hx1
          have pc0 := F.p.c0
          have pc1 := F.p.c1
          have pf0 := F.p.f0
          have pf1 := F.p.f1
          have lc0 := F.l.c0
          have lc1 := F.l.c1
          have lf0 := F.l.f0
          have lf1 := F.l.f1
          have qc0 := F.q.c0
          have qc1 := F.q.c1
          have qf0 := F.q.f0
          have qf1 := F.q.f1
          have qlt := F.q.lt
          go_wp2_with fail
          refine (htw.out _ _).mono ?_
          rintro e w' ⟨rfl, hx1⟩
          clear pc0 pc1 pf0 pf1 lc0 lc1 lf0 lf1 qc0 qc1 qf0 qf1 qlt
          replace F := (F.setP _ _).ext hx1
          clear hx1
          have pc0 := F.p.c0
          have pc1 := F.p.c1
          have pf0 := F.p.f0
          have pf1 := F.p.f1
          have lc0 := F.l.c0
          have lc1 := F.l.c1
          have lf0 := F.l.f0
          have lf1 := F.l.f1
          have qc0 := F.q.c0
          have qc1 := F.q.c1
          have qf0 := F.q.f0
          have qf1 := F.q.f1
          have qlt := F.q.lt
          go_wp2_with fail
          refine (HU.out _).mono ?_
          rintro e w' ⟨rfl, hx1⟩
          clear pc0 pc1 pf0 pf1 lc0 lc1 lf0 lf1 qc0 qc1 qf0 qf1 qlt
          replace F := (F.setQ _ _).ext hx1
          clear hx1
          have pc0 := F.p.c0
          have pc1 := F.p.c1
          have pf0 := F.p.f0
          have pf1 := F.p.f1
          have lc0 := F.l.c0
          have lc1 := F.l.c1
          have lf0 := F.l.f0
          have lf1 := F.l.f1
          have qc0 := F.q.c0
          have qc1 := F.q.c1
          have qf0 := F.q.f0
          have qf1 := F.q.f1
          have qlt := F.q.lt
          go_wp2
          go_roundw
          case rel => exact ⟨k + 1, 2 * N, by omega, by go_num, HNe.out, by rw [HD1.out, HD2.out]; exact F⟩
          case measure => simp [intOf]; omega
      · rw [if_neg hn] at hd1 hd2
        have hn' : 0 ≤ hi (N : Int) := Int.not_lt.1 hn
        obtain ⟨r1, r2⟩ := rest_step L B 0 hL (by decide)
        rw [r1] at hd1
        rw [r2] at hd2
        clear r1 r2
        by_cases hge : B ≤ 2 * L + 0
        · rw [if_pos hge] at hd1 hd2
          have HD1 : RowKit.Hid (((high (2 * N) / B : Nat) : Int) = 2 * (Q : Int) + 1) := Lib.hid (by rw [hd1]; rfl)
          have HD2 : RowKit.Hid (((high (2 * N) % B : Nat) : Int) = 2 * (L : Int) + -U b) := Lib.hid (by rw [hd2, hB]; clear hd1 hd2 F; omega)
          clear hd1 hd2
          have ez : decide (2 * (L : Int) < U b) = false := by rw [hB]; simp; omega
          have Z0 : RowKit.Hid (0 ≤ 2 * (L : Int)) := Lib.hid (by omega)
          have Z1 : RowKit.Hid (2 * (L : Int) ≤ 340282366920938463463374607431768211455) := Lib.hid (by have := HB.out.2; omega)
          have HU := Lib.hid (fun X => by have h := hul.out (2 * (L : Int)) Z0.out Z1.out X; rw [ez] at h; exact h)
          have HL := Lib.hid hL
          have HB2 := Lib.hid hB
          clear hge hL hB ez Z0 Z1
          have en : decide (hi (N : Int) < 0) = false := by simpa using hn
          clear hn hn'
          have pc0 := F.p.c0
          have pc1 := F.p.c1
          have pf0 := F.p.f0
          have pf1 := F.p.f1
          have lc0 := F.l.c0
          have lc1 := F.l.c1
          have lf0 := F.l.f0
          have lf1 := F.l.f1
          have qc0 := F.q.c0
          have qc1 := F.q.c1
          have qf0 := F.q.f0
          have qf1 := F.q.f1
          have qlt := F.q.lt
          go_wp2_with fail
          refine (htw.out _ _).mono ?_
          rintro e w' ⟨rfl, hx1⟩
          clear pc0 pc1 pf0 pf1 lc0 lc1 lf0 lf1 qc0 qc1 qf0 qf1 qlt
          replace F := F.ext hx1
          clear hx1
          have pc0 := F.p.c0
          have pc1 := F.p.c1
          have pf0 := F.p.f0
          have pf1 := F.p.f1
          have lc0 := F.l.c0
          have lc1 := F.l.c1
          have lf0 := F.l.f0
          have lf1 := F.l.f1
          have qc0 := F.q.c0
          have qc1 := F.q.c1
          have qf0 := F.q.f0
          have qf1 := F.q.f1
          have qlt := F.q.lt
          go_wp2_with fail
          refine (htw.out _ _).mono ?_
          rintro e w' ⟨rfl, hx1⟩
          clear pc0 pc1 pf0 pf1 lc0 lc1 lf0 lf1 qc0 qc1 qf0 qf1 qlt
          replace F := (F.setL _ _).ext hx1
          clear hx1
          have pc0 := F.p.c0
          have pc1 := F.p.c1
          have pf0 := F.p.f0
          have pf1 := F.p.f1
          have lc0 := F.l.c0
          have lc1 := F.l.c1
          have lf0 := F.l.f0
          have lf1 := F.l.f1
          have qc0 := F.q.c0
          have qc1 := F.q.c1
          have qf0 := F.q.f0
          have qf1 := F.q.f1
          have qlt := F.q.lt
          go_wp2_with fail
          refine (htw.out _ _).mono ?_
          rintro e w' ⟨rfl, hx1⟩
          clear pc0 pc1 pf0 pf1 lc0 lc1 lf0 lf1 qc0 qc1 qf0 qf1 qlt
          replace F := (F.setP _ _).ext hx1
          clear hx1
          have pc0 := F.p.c0
          have pc1 := F.p.c1
          have pf0 := F.p.f0
          have pf1 := F.p.f1
          have lc0 := F.l.c0
          have lc1 := F.l.c1
          have lf0 := F.l.f0
          have lf1 := F.l.f1
          have qc0 := F.q.c0
          have qc1 := F.q.c1
          have qf0 := F.q.f0
          have qf1 := F.q.f1
          have qlt := F.q.lt
          go_wp2_with fail
          refine (HU.out _).mono ?_
          rintro e w' ⟨rfl, hx1⟩
          clear pc0 pc1 pf0 pf1 lc0 lc1 lf0 lf1 qc0 qc1 qf0 qf1 qlt
          replace F := (F.setQ _ _).ext hx1
          clear hx1
          have pc0 := F.p.c0
          have pc1 := F.p.c1
          have pf0 := F.p.f0
          have pf1 := F.p.f1
          have lc0 := F.l.c0
          have lc1 := F.l.c1
          have lf0 := F.l.f0
          have lf1 := F.l.f1
          have qc0 := F.q.c0
          have qc1 := F.q.c1
          have qf0 := F.q.f0
          have qf1 := F.q.f1
          have qlt := F.q.lt
          go_wp2_with fail
          have Fd := F.ext (Ext.drew (Ext.refl _))
          go_region_with (first | (go_at_call 61; refine (hneg.out _).mono ?_; rintro e w1 ⟨rfl, hx0⟩; have F1 := Fd.ext hx0; clear hx0; have kc0 := F1.l.c0; have kc1 := F1.l.c1) | (go_at_call 68; refine (htwo.out _ _ _).mono ?_; rintro e w2 ⟨rfl, hx0⟩; have F2 := F1.ext hx0; clear hx0; have mc0 := F2.l.c0; have mc1 := F2.l.c1; have mf0 := F2.l.f0; have mf1 := F2.l.f1; have mlt := F2.q.lt))
          all_goals
            clear pc0 pc1 pf0 pf1 lc0 lc1 lf0 lf1 qc0 qc1 qf0 qf1 qlt kc0 kc1 Fd
            have qc0 := F2.q.c0
            have qc1 := F2.q.c1
            have qf0 := F2.q.f0
            have qf1 := F2.q.f1
            go_wp2_with fail
            refine (hone.out _ _).mono ?_
            rintro e w3 ⟨rfl, hx1⟩
            have F4 := (F2.setL _ _).ext hx1
            clear hx1 qc0 qc1 qf0 qf1 mc0 mc1 mf0 mf1 mlt
            have qc0 := F4.q.c0
            have qc1 := F4.q.c1
            have qf0 := F4.q.f0
            have qf1 := F4.q.f1
            have qlt := F4.q.lt
            go_wp2
            go_roundw
            case rel => exact ⟨k + 1, 2 * N, by omega, by go_num, HNe.out, by rw [HD1.out, HD2.out]; exact F4.setQ _ _⟩
            case measure => simp [intOf]; omega
        · rw [if_neg hge] at hd1 hd2
          have HD1 : RowKit.Hid (((high (2 * N) / B : Nat) : Int) = 2 * (Q : Int)) := Lib.hid (by rw [hd1]; rfl)
          have HD2 : RowKit.Hid (((high (2 * N) % B : Nat) : Int) = 2 * (L : Int)) := Lib.hid (by rw [hd2]; rfl)
          clear hd1 hd2
          have ez : decide (2 * (L : Int) < U b) = true := by rw [hB]; simp; omega
          have Z0 : RowKit.Hid (0 ≤ 2 * (L : Int)) := Lib.hid (by omega)
          have Z1 : RowKit.Hid (2 * (L : Int) ≤ 340282366920938463463374607431768211455) := Lib.hid (by have := HB.out.2; omega)
          have HU := Lib.hid (fun X => by have h := hul.out (2 * (L : Int)) Z0.out Z1.out X; rw [ez] at h; exact h)
          have HL := Lib.hid hL
          have HB2 := Lib.hid hB
          clear hge hL hB ez Z0 Z1
          have en : decide (hi (N : Int) < 0) = false := by simpa using hn
          clear hn hn'
          have pc0 := F.p.c0
          have pc1 := F.p.c1
          have pf0 := F.p.f0
          have pf1 := F.p.f1
          have lc0 := F.l.c0
          have lc1 := F.l.c1
          have lf0 := F.l.f0
          have lf1 := F.l.f1
          have qc0 := F.q.c0
          have qc1 := F.q.c1
          have qf0 := F.q.f0
          have qf1 := F.q.f1
          have qlt := F.q.lt
          go_wp2_with fail
          refine (htw.out _ _).mono ?_
          rintro e w' ⟨rfl, hx1⟩
          clear pc0 pc1 pf0 pf1 lc0 lc1 lf0 lf1 qc0 qc1 qf0 qf1 qlt
          replace F := F.ext hx1
          clear hx1
          have pc0 := F.p.c0
          have pc1 := F.p.c1
          have pf0 := F.p.f0
          have pf1 := F.p.f1
          have lc0 := F.l.c0
          have lc1 := F.l.c1
          have lf0 := F.l.f0
          have lf1 := F.l.f1
          have qc0 := F.q.c0
          have qc1 := F.q.c1
          have qf0 := F.q.f0
          have qf1 := F.q.f1
          have qlt := F.q.lt
          go_wp2_with fail
          refine (htw.out _ _).mono ?_
          rintro e w' ⟨rfl, hx1⟩
          clear pc0 pc1 pf0 pf1 lc0 lc1 lf0 lf1 qc0 qc1 qf0 qf1 qlt
          replace F := (F.setL _ _).ext hx1
          clear hx1
          have pc0 := F.p.c0
          have pc1 := F.p.c1
          have pf0 := F.p.f0
          have pf1 := F.p.f1
          have lc0 := F.l.c0
          have lc1 := F.l.c1
          have lf0 := F.l.f0
          have lf1 := F.l.f1
          have qc0 := F.q.c0
          have qc1 := F.q.c1
          have qf0 := F.q.f0
          have qf1 := F.q.f1
          have qlt := F.q.lt
          go_wp2_with fail
          refine (htw.out _ _).mono ?_
          rintro e w' ⟨rfl, hx1⟩
          clear pc0 pc1 pf0 pf1 lc0 lc1 lf0 lf1 qc0 qc1 qf0 qf1 qlt
          replace F := (F.setP _ _).ext hx1
          clear hx1
          have pc0 := F.p.c0
          have pc1 := F.p.c1
          have pf0 := F.p.f0
          have pf1 := F.p.f1
          have lc0 := F.l.c0
          have lc1 := F.l.c1
          have lf0 := F.l.f0
          have lf1 := F.l.f1
          have qc0 := F.q.c0
          have qc1 := F.q.c1
          have qf0 := F.q.f0
          have qf1 := F.q.f1
          have qlt := F.q.lt
          go_wp2_with fail
          refine (HU.out _).mono ?_
          rintro e w' ⟨rfl, hx1⟩
          clear pc0 pc1 pf0 pf1 lc0 lc1 lf0 lf1 qc0 qc1 qf0 qf1 qlt
          replace F := (F.setQ _ _).ext hx1
          clear hx1
          have pc0 := F.p.c0
          have pc1 := F.p.c1
          have pf0 := F.p.f0
          have pf1 := F.p.f1
          have lc0 := F.l.c0
          have lc1 := F.l.c1
          have lf0 := F.l.f0
          have lf1 := F.l.f1
          have qc0 := F.q.c0
          have qc1 := F.q.c1
          have qf0 := F.q.f0
          have qf1 := F.q.f1
          have qlt := F.q.lt
          go_wp2
          go_roundw
          case rel => exact ⟨k + 1, 2 * N, by omega, by go_num, HNe.out, by rw [HD1.out, HD2.out]; exact F⟩
          case measure => simp [intOf]; omega
    · obtain rfl : k = 128 := by omega
      have hh : high N = P := by rw [HN.out]; unfold high big; exact Nat.mul_div_cancel P (by decide)
      rw [hh] at F
      have lc0 := F.l.c0
      have lc1 := F.l.c1
      have qc0 := F.q.c0
      have qc1 := F.q.c1
      have rc0 := F.r.c0
      have rc1 := F.r.c1
      have rf0 := F.r.f0
      have rf1 := F.r.f1
      have qlt := F.q.lt
      clear hh HN htw hone htwo hneg hul HP
      rw [show ((128 : Nat) : Int) = 128 from rfl]
      obtain ⟨R, hR⟩ : ∃ R, R = P % B := ⟨_, rfl⟩
      obtain ⟨D, hD⟩ : ∃ D, D = P / B := ⟨_, rfl⟩
      rw [← hR] at F lc0 lc1
      rw [← hD] at F qc0 qc1
      have HR := Lib.hid hR
      have HD := Lib.hid hD
      clear hR hD
      go_wp2
      go_region
      go_wp2
      refine bodyPost_ret (v := .tuple #[.int .i64 (lo (R : Int)), .agg #[.int .i64 (lo (D : Int)), .int .i64 (hi (D : Int))]]) ?_ rfl ⟨by rw [HR.out, HD.out], (F.x.set2 (by have := F.le; omega) _ _).drew⟩
      simp [results, Try.results72, go_sem, rc0, rc1]
end Go.Proofs.Ytnclfopdgilgaaa
