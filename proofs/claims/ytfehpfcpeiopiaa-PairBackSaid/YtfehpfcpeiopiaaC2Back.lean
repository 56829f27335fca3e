/- Layer 2: what was divided comes back. Condition: cells are integers of 64 bits. -/
import Derived.Test.YtfehpfcpeiopiaaC2Laws
import Derived.Test.YtfehpfcpeiopiaaC2Order
namespace Go.Proofs.Ytfehpfcpeiopiaa
open Go.RowKit
set_option linter.unusedVariables false

def Sy (w : World) (a0 b0 : Int) (W : World) : Prop := (W.cell? ⟨w.heap.size, 0, none⟩ = some (.int .i64 a0) ∧ W.cell? ⟨w.heap.size, 1, none⟩ = some (.int .i64 b0)) ∧ Ext w W
theorem Sy.keep {w : World} {a0 b0 : Int} {W W' : World} (h : Sy w a0 b0 W) (k : Ext W W') : Sy w a0 b0 W' := ⟨⟨ext_keeps k h.1.1, ext_keeps k h.1.2⟩, h.2.trans k⟩
theorem heldy {w : World} {a0 b0 : Int} {f : FuncId} {xs : Array Value} {v : Value} (h : ∀ W, Calls Try.prog f xs W fun e w' => e = .returned v ∧ Ext W w') (W : World) (hS : Sy w a0 b0 W) :
    Calls Try.prog f xs W fun e w' => e = .returned v ∧ Sy w a0 b0 w' := (h W).mono fun e w' ⟨he, hx⟩ => ⟨he, hS.keep hx⟩
theorem size_calls (x : Int) (hx : I64 x) (w0 : World) (w : World) (h : Ext w0 w) : Calls Try.prog 35 #[.int .i64 x] w fun e w' => e = .returned (.int .u64 (x.natAbs : Int)) ∧ Ext w0 w' := by
  by_cases hn : x < 0
  · have e1 : IntKind.u64.wrap x = U x := u64_wrap x
    have e2 : IntKind.u64.wrap (-U x) = (x.natAbs : Int) := by rw [u64_wrap]; unfold U; unfold I64 at hx; omega
    clear hx
    generalize (x.natAbs : Int) = N at *
    go_enter Try.func35, Try.ntmps35
    go_wp2
    go_ret
    exact ⟨rfl, h⟩
  · have e1 : IntKind.u64.wrap x = (x.natAbs : Int) := by rw [u64_wrap]; unfold I64 at hx; omega
    have hn' : 0 ≤ x := by omega
    clear hx hn
    generalize (x.natAbs : Int) = N at *
    go_enter Try.func35, Try.ntmps35
    go_wp2
    go_ret
    exact ⟨rfl, h⟩
theorem lo_W (a b : Int) (ha : I64 a) (hb : I64 b) : lo (W a b) = a ∧ hi (W a b) = b := by
  obtain ⟨k, hk⟩ := W_V a b
  rw [hk, lo_off, hi_off, lo_V ha, hi_V hb]
  exact ⟨rfl, rfl⟩
/-- A division without signs that tells OK: its quotient times the divisor, and what is left, is what was divided. -/
theorem udiv_back (a c b : Int) (ha : I64 a) (hc : I64 c) (hb : I64 b) (hz : b ≠ 0) (hok : W a c / U b ≤ 18446744073709551615) : ∃ m0 m1 : Int,
    (∀ W', Calls Try.prog 27 #[.int .i64 (lo (W a c / U b)), .int .i64 b] W' fun e w' => e = .returned (.agg #[.int .i64 m0, .int .i64 m1]) ∧ Ext W' w')
    ∧ (∀ W', Calls Try.prog 11 #[.agg #[.int .i64 m0, .int .i64 m1], .agg #[.int .i64 (wrap64 (W a c % U b)), .int .i64 0]] W' fun e w' => e = .returned (.agg #[.int .i64 a, .int .i64 c]) ∧ Ext W' w')
    ∧ (∀ W', Calls Try.prog 23 #[.agg #[.int .i64 (wrap64 (W a c % U b)), .int .i64 0], .agg #[.int .i64 b, .int .i64 0]] W' fun e w' => e = .returned (.bool true) ∧ Ext W' w') := by
  obtain ⟨w1, w2⟩ := W_bd a c
  obtain ⟨u1, u2⟩ := U_bd b
  have hB0 : 0 < U b := by
    have : U b ≠ 0 := by unfold U; unfold I64 at hb; omega
    omega
  obtain ⟨e1, e2⟩ := lo_W a c ha hc
  have hq0 : 0 ≤ W a c / U b := Int.ediv_nonneg w1 u1
  have hr0 : 0 ≤ W a c % U b := Int.emod_nonneg _ (by omega)
  have hr1 : W a c % U b < U b := Int.emod_lt_of_pos _ hB0
  have hsum : W a c / U b * U b + W a c % U b = W a c := by rw [Int.mul_comm]; exact Int.mul_ediv_add_emod _ _
  generalize W a c = P at *
  generalize hQ : P / U b = Q at *
  generalize hR : P % U b = R at *
  have uq : U (lo Q) = Q := by unfold U lo wrap64; omega
  have ur : U (wrap64 R) = R := by unfold U wrap64; omega
  refine ⟨lo (Q * U b), hi (Q * U b), fun W' => ?_, fun W' => ?_, fun W' => ?_⟩
  · have h := umul_calls W' (lo Q) b (lo_i64 _) hb W' (Ext.refl W')
    rw [uq] at h
    exact h
  · have h := add_calls W' (lo (Q * U b)) (hi (Q * U b)) (wrap64 R) 0 (lo_i64 _) (hi_i64 _) (i64_wrap _) (by unfold I64; omega) W' (Ext.refl W')
    rw [V_low, ur, (same_add _ _).1, (same_add _ _).2, hsum, e1, e2] at h
    exact h
  · have h := uless_calls W' (wrap64 R) 0 b 0 (i64_wrap _) (by unfold I64; omega) hb (by unfold I64; omega) W' (Ext.refl W')
    rw [low_less, ur, decide_eq_true hr1] at h
    exact h
/-- A signed division that tells OK. -/
theorem sdiv_back (a c b q r : Int) (ha : I64 a) (hc : I64 c) (hb : I64 b) (hq : I64 q) (hr : I64 r) (h : V a c = q * b + r) : ∃ m0 m1 n0 n1 : Int,
    (∀ W', Calls Try.prog 25 #[.int .i64 q, .int .i64 b] W' fun e w' => e = .returned (.agg #[.int .i64 m0, .int .i64 m1]) ∧ Ext W' w')
    ∧ (∀ W', Calls Try.prog 19 #[.int .i64 r] W' fun e w' => e = .returned (.agg #[.int .i64 n0, .int .i64 n1]) ∧ Ext W' w')
    ∧ (∀ W', Calls Try.prog 11 #[.agg #[.int .i64 m0, .int .i64 m1], .agg #[.int .i64 n0, .int .i64 n1]] W' fun e w' => e = .returned (.agg #[.int .i64 a, .int .i64 c]) ∧ Ext W' w') := by
  refine ⟨lo (q * b), hi (q * b), lo r, hi r, fun W' => mul_calls W' q b hq hb W' (Ext.refl W'), fun W' => of_calls W' r hr W' (Ext.refl W'), fun W' => ?_⟩
  have h2 := add_mk (q * b) r W'
  rw [← h, lo_V ha, hi_V hc] at h2
  exact h2
theorem floor_back (v b : Int) (hz : b ≠ 0) : v = FQ v b * b + FR v b ∧ ((0 ≤ FR v b ∧ FR v b < b) ∨ (b < FR v b ∧ FR v b ≤ 0)) := by
  unfold FQ FR
  by_cases hn : b < 0
  · rw [if_pos hn, if_pos hn]
    have e := Int.mul_ediv_add_emod (-v) (-b)
    have h0 := Int.emod_nonneg (-v) (show -b ≠ 0 by omega)
    have h1 := Int.emod_lt_of_pos (-v) (show 0 < -b by omega)
    rw [Int.neg_mul, Int.mul_comm] at e
    refine ⟨by omega, .inr ⟨by omega, by omega⟩⟩
  · rw [if_neg hn, if_neg hn]
    have e := Int.mul_ediv_add_emod v b
    have h0 := Int.emod_nonneg v hz
    have h1 := Int.emod_lt_of_pos v (show 0 < b by omega)
    rw [Int.mul_comm] at e
    exact ⟨by omega, .inl ⟨h0, h1⟩⟩
/-- The three ways of a division without signs. -/
def UWay (a c b r q e : Int) : Prop := ((b == 0) = true ∧ r = 0 ∧ q = 0 ∧ e = -10) ∨ ((b == 0) = false ∧ r = 0 ∧ q = 0 ∧ e = -11)
  ∨ ((b == 0) = false ∧ e = 0 ∧ ∃ m0 m1 : Int, RowKit.Hid (∀ W', Calls Try.prog 27 #[.int .i64 q, .int .i64 b] W' fun en w' => en = .returned (.agg #[.int .i64 m0, .int .i64 m1]) ∧ Ext W' w') ∧ RowKit.Hid (∀ W', Calls Try.prog 11 #[.agg #[.int .i64 m0, .int .i64 m1], .agg #[.int .i64 r, .int .i64 0]] W' fun en w' => en = .returned (.agg #[.int .i64 a, .int .i64 c]) ∧ Ext W' w') ∧ RowKit.Hid (∀ W', Calls Try.prog 23 #[.agg #[.int .i64 r, .int .i64 0], .agg #[.int .i64 b, .int .i64 0]] W' fun en w' => en = .returned (.bool true) ∧ Ext W' w'))
def SBack (a c b r q : Int) : Prop := ∃ m0 m1 n0 n1 : Int, RowKit.Hid (∀ W', Calls Try.prog 25 #[.int .i64 q, .int .i64 b] W' fun en w' => en = .returned (.agg #[.int .i64 m0, .int .i64 m1]) ∧ Ext W' w') ∧ RowKit.Hid (∀ W', Calls Try.prog 19 #[.int .i64 r] W' fun en w' => en = .returned (.agg #[.int .i64 n0, .int .i64 n1]) ∧ Ext W' w') ∧ RowKit.Hid (∀ W', Calls Try.prog 11 #[.agg #[.int .i64 m0, .int .i64 m1], .agg #[.int .i64 n0, .int .i64 n1]] W' fun en w' => en = .returned (.agg #[.int .i64 a, .int .i64 c]) ∧ Ext W' w')
def FWay (a c b r q e : Int) : Prop := ((b == 0) = true ∧ r = 0 ∧ q = 0 ∧ e = -10) ∨ ((b == 0) = false ∧ r = 0 ∧ q = 0 ∧ e = -11)
  ∨ ((b == 0) = false ∧ e = 0 ∧ SBack a c b r q ∧ ((0 ≤ r ∧ r < b) ∨ (r = 0 ∧ b < 0) ∨ (b < r ∧ r < 0)))
def TWay (a c b r q e : Int) : Prop := ((b == 0) = true ∧ r = 0 ∧ q = 0 ∧ e = -10) ∨ ((b == 0) = false ∧ r = 0 ∧ q = 0 ∧ e = -11)
  ∨ ((b == 0) = false ∧ e = 0 ∧ SBack a c b r q ∧ r.natAbs < b.natAbs ∧ I64 r ∧ ((r == 0) = true ∨ ((r == 0) = false ∧ decide (r < 0) = decide (c < 0))))
theorem u_way (a c b : Int) (ha : I64 a) (hc : I64 c) (hb : I64 b) : ∃ r q e : Int, UWay a c b r q e ∧ RowKit.Hid (∀ W', Calls Try.prog 29 #[.agg #[.int .i64 a, .int .i64 c], .int .i64 b] W' fun en w' => en = .returned (.tuple #[.int .i64 r, .int .i64 q, .int .i64 e]) ∧ Ext W' w') := by
  by_cases hz : b = 0
  · have hz2 : (b == 0) = true := by simpa using hz
    refine ⟨0, 0, -10, .inl ⟨hz2, rfl, rfl, rfl⟩, Lib.hid fun W' => ?_⟩
    have h := udiv_calls W' a c b ha hc hb W' (Ext.refl W')
    rw [hz2, okR_zero, okR_zero, okE_zero] at h
    exact h
  · have hz2 : (b == 0) = false := by simpa using hz
    by_cases hok : W a c / U b ≤ 18446744073709551615
    · obtain ⟨m0, m1, h1, h2, h3⟩ := udiv_back a c b ha hc hb hz hok
      refine ⟨_, _, 0, .inr (.inr ⟨hz2, rfl, m0, m1, Lib.hid h1, Lib.hid h2, Lib.hid h3⟩), Lib.hid fun W' => ?_⟩
      have h := udiv_calls W' a c b ha hc hb W' (Ext.refl W')
      rw [hz2, decide_eq_true hok, okR_near, okR_near, okE_near] at h
      exact h
    · refine ⟨0, 0, -11, .inr (.inl ⟨hz2, rfl, rfl, rfl⟩), Lib.hid fun W' => ?_⟩
      have h := udiv_calls W' a c b ha hc hb W' (Ext.refl W')
      rw [hz2, decide_eq_false hok, okR_far, okR_far, okE_far] at h
      exact h
theorem f_way (a c b : Int) (ha : I64 a) (hc : I64 c) (hb : I64 b) : ∃ r q e : Int, FWay a c b r q e ∧ RowKit.Hid (∀ W', Calls Try.prog 31 #[.agg #[.int .i64 a, .int .i64 c], .int .i64 b] W' fun en w' => en = .returned (.tuple #[.int .i64 r, .int .i64 q, .int .i64 e]) ∧ Ext W' w') := by
  by_cases hz : b = 0
  · have hz2 : (b == 0) = true := by simpa using hz
    refine ⟨0, 0, -10, .inl ⟨hz2, rfl, rfl, rfl⟩, Lib.hid fun W' => ?_⟩
    have h := floor_calls W' a c b ha hc hb W' (Ext.refl W')
    rw [hz2, okR_zero, okR_zero, okE_zero] at h
    exact h
  · have hz2 : (b == 0) = false := by simpa using hz
    by_cases hok : cel (FQ (V a c) b) = true
    · obtain ⟨e1, e2⟩ := floor_back (V a c) b hz
      have hr : I64 (FR (V a c) b) := by unfold I64 at *; omega
      obtain ⟨m0, m1, n0, n1, h1, h2, h3⟩ := sdiv_back a c b _ _ ha hc hb (cel_yes hok) hr e1
      refine ⟨_, _, 0, .inr (.inr ⟨hz2, rfl, ⟨m0, m1, n0, n1, Lib.hid h1, Lib.hid h2, Lib.hid h3⟩, ?_⟩), Lib.hid fun W' => ?_⟩
      · omega
      · have h := floor_calls W' a c b ha hc hb W' (Ext.refl W')
        rw [hz2, hok, okR_near, okR_near, okE_near] at h
        exact h
    · refine ⟨0, 0, -11, .inr (.inl ⟨hz2, rfl, rfl, rfl⟩), Lib.hid fun W' => ?_⟩
      have h := floor_calls W' a c b ha hc hb W' (Ext.refl W')
      have hok2 : cel (FQ (V a c) b) = false := by simpa using hok
      rw [hz2, hok2, okR_far, okR_far, okE_far] at h
      exact h
theorem t_way (a c b : Int) (ha : I64 a) (hc : I64 c) (hb : I64 b) : ∃ r q e : Int, TWay a c b r q e ∧ RowKit.Hid (∀ W', Calls Try.prog 33 #[.agg #[.int .i64 a, .int .i64 c], .int .i64 b] W' fun en w' => en = .returned (.tuple #[.int .i64 r, .int .i64 q, .int .i64 e]) ∧ Ext W' w') := by
  by_cases hz : b = 0
  · have hz2 : (b == 0) = true := by simpa using hz
    refine ⟨0, 0, -10, .inl ⟨hz2, rfl, rfl, rfl⟩, Lib.hid fun W' => ?_⟩
    have h := trunc_calls W' a c b ha hc hb W' (Ext.refl W')
    rw [hz2, okR_zero, okR_zero, okE_zero] at h
    exact h
  · have hz2 : (b == 0) = false := by simpa using hz
    by_cases hok : cel ((V a c).tdiv b) = true
    · have e1 := Int.tdiv_mul_add_tmod (V a c) b
      have e2 := tmod_bd (V a c) b hz
      have e3 := tmod_sign (V a c) b
      have e4 := V_neg a c ha hc
      have hr : I64 ((V a c).tmod b) := by unfold I64 at *; omega
      obtain ⟨m0, m1, n0, n1, h1, h2, h3⟩ := sdiv_back a c b _ _ ha hc hb (cel_yes hok) hr e1.symm
      refine ⟨_, _, 0, .inr (.inr ⟨hz2, rfl, ⟨m0, m1, n0, n1, Lib.hid h1, Lib.hid h2, Lib.hid h3⟩, e2, hr, ?_⟩), Lib.hid fun W' => ?_⟩
      · by_cases h0 : (V a c).tmod b = 0
        · exact .inl (by simpa using h0)
        · exact .inr ⟨by simpa using h0, by rw [decide_eq_decide]; omega⟩
      · have h := trunc_calls W' a c b ha hc hb W' (Ext.refl W')
        rw [hz2, hok, okR_near, okR_near, okE_near] at h
        exact h
    · refine ⟨0, 0, -11, .inr (.inl ⟨hz2, rfl, rfl, rfl⟩), Lib.hid fun W' => ?_⟩
      have h := trunc_calls W' a c b ha hc hb W' (Ext.refl W')
      have hok2 : cel ((V a c).tdiv b) = false := by simpa using hok
      rw [hz2, hok2, okR_far, okR_far, okE_far] at h
      exact h
end Go.Proofs.Ytfehpfcpeiopiaa
