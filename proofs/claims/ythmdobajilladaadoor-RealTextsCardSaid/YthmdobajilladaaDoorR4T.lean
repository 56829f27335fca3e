/- The document's answers for layer 4: a number rounded. Condition: a whole number of at most 53 bits, and a place of at most four digits. -/
import Derived.Test.YthmdobajilladaaDoorR4S
import Derived.Test.YthmdobajilladaaDoorC2RefB
namespace Go.Proofs.YthmdobajilladaaDoor
open Go.RowKit
set_option linter.unusedVariables false
open Ieee (double)

/-- The cells l and h are the pair P. -/
structure Par (l h : Int) (P : Nat) : Prop where
  lt : P < 42535295865117307932921825928971026432
  lo : l = lo (P : Int)
  hi : h = hi (P : Int)
theorem par_lo (P : Nat) (h : P < 42535295865117307932921825928971026432) : Cel (lo (P : Int)) (P % 18446744073709551616) := by
  refine ⟨by omega, ?_⟩
  unfold lo wrap64
  omega
theorem par_hi (P : Nat) (h : P < 42535295865117307932921825928971026432) : hi (P : Int) = ((P / 18446744073709551616 : Nat) : Int) ∧ P / 18446744073709551616 < 2305843009213693952 := by
  unfold hi wrap64
  omega
theorem Par.cells {l h : Int} {P : Nat} (p : Par l h P) : Cel l (P % 18446744073709551616) ∧ Cel h (P / 18446744073709551616) := by
  obtain ⟨e, k⟩ := par_hi P p.lt
  refine ⟨by rw [p.lo]; exact par_lo P p.lt, by omega, ?_⟩
  rw [p.hi, e]
  exact (IntWalk.wrap64_in _ ⟨by omega, by omega⟩).symm
theorem Par.top {l h : Int} {P : Nat} (p : Par l h P) : 0 ≤ h ∧ h < 2305843009213693952 ∧ IntKind.u64.wrap h = h ∧ (h < 1152921504606846976 ↔ P < 21267647932558653966460912964485513216) := by
  obtain ⟨e, k⟩ := par_hi P p.lt
  have q : h = ((P / 18446744073709551616 : Nat) : Int) := by rw [p.hi, e]
  refine ⟨by omega, by omega, ?_, ?_⟩
  · rw [IntKind.wrap_u64]; omega
  · rw [q]; omega
theorem Par.some {l h : Int} {P : Nat} (p : Par l h P) (h0 : P ≠ 0) : (l == 0 && h == 0) = false := by
  obtain ⟨c, d⟩ := p.cells
  rw [Bool.and_eq_false_iff, beq_eq_false_iff_ne, beq_eq_false_iff_ne]
  by_cases k : P % 18446744073709551616 = 0
  · right
    rw [d.is]
    intro z
    have := (wrap_nil _ d.lt).1 z
    omega
  · left
    rw [c.is]
    intro z
    exact k ((wrap_nil _ c.lt).1 z)
theorem Par.twice {l h : Int} {P : Nat} (p : Par l h P) (k : P < 21267647932558653966460912964485513216) : Par (Go.Proofs.YthmdobajilladaaDoor.lo (2 * (P : Int))) (Go.Proofs.YthmdobajilladaaDoor.hi (2 * (P : Int))) (2 * P) := by
  refine ⟨by omega, ?_, ?_⟩
  · rw [Int.natCast_mul]; rfl
  · rw [Int.natCast_mul]; rfl
theorem up_to (m j : Nat) (h0 : m ≠ 0) (h : m ≤ 9007199254740992) : (m * 2 ^ j < 21267647932558653966460912964485513216 ↔ j < 124 - m.log2) ∧ (j ≤ 124 - m.log2 → m * 2 ^ j < 42535295865117307932921825928971026432) := by
  have hl : m.log2 < 54 := (Nat.log2_lt h0).2 (by omega)
  have a : (2 : Nat) ^ 124 = 21267647932558653966460912964485513216 := by decide +kernel
  have b : (2 : Nat) ^ 125 = 42535295865117307932921825928971026432 := by decide +kernel
  have hm : m * 2 ^ j ≠ 0 := Nat.mul_ne_zero h0 (pow_ne j)
  rw [← a, ← b, ← Nat.log2_lt hm, ← Nat.log2_lt hm, log2_mul_pow m j h0]
  omega
/-- The last step of making a number great. -/
def topJ (m : Nat) : Nat := 124 - m.log2
def topF (m : Nat) (e0 : Int) : Nat × Int × Bool := cutF (m * 2 ^ topJ m + (-1075 - (e0 - (topJ m : Int))).toNat) (m * 2 ^ topJ m) (e0 - (topJ m : Int)) false
theorem top_inv (m : Nat) (h0 : m ≠ 0) (h : m ≤ 9007199254740992) (e0 : Int) (he : -10000 ≤ e0 ∧ e0 ≤ 10000) : CutInv (e0 - (topJ m : Int)) (m * 2 ^ topJ m) (topF m e0) (m * 2 ^ topJ m % 18446744073709551616) (m * 2 ^ topJ m / 18446744073709551616) (e0 - (topJ m : Int)) false ∧ m * 2 ^ topJ m < 2 ^ 128 := by
  have k := (up_to m (topJ m) h0 h).2 (Nat.le_refl _)
  have hj : topJ m ≤ 124 := by unfold topJ; omega
  have e : m * 2 ^ topJ m % 18446744073709551616 + 18446744073709551616 * (m * 2 ^ topJ m / 18446744073709551616) = m * 2 ^ topJ m := Nat.mod_add_div _ _
  have b : (2 : Nat) ^ 128 = 340282366920938463463374607431768211456 := by decide +kernel
  refine ⟨⟨Nat.mod_lt _ (by decide), by omega, Int.le_refl _, by omega, ?_, ?_⟩, by rw [b]; omega⟩
  · rw [e, Int.sub_self, Int.toNat_zero, Nat.pow_zero, Nat.mul_one]
    exact Nat.le_refl _
  · rw [e]
    exact ⟨_, rfl, Nat.le_refl _⟩
theorem par_twice {l h : Int} {P : Nat} (p : Par l h P) (k : P < 21267647932558653966460912964485513216) : ∃ l' h', Par l' h' (2 * P) ∧ ∀ W, Calls Tryd.prog 44 #[.agg #[.int .i64 l, .int .i64 h]] W fun e w' => e = .returned (.agg #[.int .i64 l', .int .i64 h']) ∧ Ext W w' :=
  ⟨_, _, p.twice k, fun W => by rw [p.lo, p.hi]; exact rtwice_mk _ W⟩
/-- What holds at each step of making a number great. -/
structure Up (m : Nat) (j : Nat) (l h : Int) : Prop where
  le : j ≤ topJ m
  par : Par l h (m * 2 ^ j)
theorem Up.go {m j : Nat} {l h : Int} (u : Up m j l h) (h0 : m ≠ 0) (hm : m ≤ 9007199254740992) (hj : j < topJ m) : (h < 1152921504606846976) ∧ ∃ l' h', Up m (j + 1) l' h' ∧ ∀ W, Calls Tryd.prog 44 #[.agg #[.int .i64 l, .int .i64 h]] W fun e w' => e = .returned (.agg #[.int .i64 l', .int .i64 h']) ∧ Ext W w' := by
  have k := (up_to m j h0 hm).1.2 hj
  obtain ⟨l', h', q, c⟩ := par_twice u.par k
  refine ⟨u.par.top.2.2.2.2 k, l', h', ⟨by omega, ?_⟩, c⟩
  rw [Nat.pow_succ, ← Nat.mul_assoc, Nat.mul_comm _ 2]
  exact q
theorem Up.stop {m j : Nat} {l h : Int} (u : Up m j l h) (h0 : m ≠ 0) (hm : m ≤ 9007199254740992) (hj : ¬ j < topJ m) : ¬ (h < 1152921504606846976) ∧ j = topJ m := by
  have e : j = topJ m := by have := u.le; omega
  refine ⟨fun k => ?_, e⟩
  have := (up_to m j h0 hm).1.1 (u.par.top.2.2.2.1 k)
  unfold topJ at hj
  exact hj this
theorem Up.nz {m j : Nat} {l h : Int} (u : Up m j l h) (h0 : m ≠ 0) : (l == 0 && h == 0) = false := u.par.some (Nat.mul_ne_zero h0 (pow_ne j))
theorem top_cut (s : Bool) (m : Nat) (h0 : m ≠ 0) (hm : m ≤ 9007199254740992) (e0 : Int) (he : -10000 ≤ e0 ∧ e0 ≤ 10000) {l h : Int} (u : Up m (topJ m) l h) (w : World) :
    Calls Tryd.prog 45 #[.bool s, .agg #[.int .i64 l, .int .i64 h], .int .i64 (e0 - (topJ m : Int)), .bool false] w fun e w' => e = .returned (.int .i64 (cellOf (cutR s (topF m e0)))) ∧ Ext w w' := by
  obtain ⟨k1, k2⟩ := top_inv m h0 hm e0 he
  obtain ⟨c1, c2⟩ := u.par.cells
  have hj : topJ m ≤ 124 := by unfold topJ; omega
  exact rcut4 s l h _ _ c1 c2 _ false _ k2 (by omega) _ k1 (u.nz h0) (by omega) w
set_option maxHeartbeats 4000000 in
set_option maxRecDepth 100000 in
theorem rrounded (s : Bool) (m : Nat) (h0 : m ≠ 0) (hm : m ≤ 9007199254740992) (e0 : Int) (he : -10000 ≤ e0 ∧ e0 ≤ 10000) (l0 h1 : Int) (hp : Par l0 h1 m) (w : World) :
    Calls Tryd.prog 29 #[.bool s, .agg #[.int .i64 l0, .int .i64 h1], .int .i64 e0, .bool false] w fun e w' => e = .returned (.int .i64 (cellOf (cutR s (topF m e0)))) ∧ Ext w w' := by
  have u0 : Up m 0 l0 h1 := ⟨Nat.zero_le _, by rw [Nat.pow_zero, Nat.mul_one]; exact hp⟩
  have TC := Lib.hid (fun l h u => top_cut s m h0 hm e0 he (l := l) (h := h) u)
  have H0 := Lib.hid h0
  have HM := Lib.hid hm
  have hj : topJ m ≤ 124 := by unfold topJ; omega
  obtain ⟨J, hJ⟩ : ∃ J, J = topJ m := ⟨_, rfl⟩
  rw [← hJ] at TC hj
  have HJ := Lib.hid hJ
  generalize cellOf (cutR s (topF m e0)) = res at *
  obtain ⟨he1, he2⟩ := he
  clear hp h0 hm hJ
  go_enter Tryd.func29, Tryd.ntmps29
  go_wp2
  have o0 : Own (w.alloc (.cells #[Value.int .i64 l0, Value.int .i64 h1] 56)) w.heap.size (.int .i64 l0) (.int .i64 h1) := Own.last
  have hE : Ext w (w.alloc (.cells #[Value.int .i64 l0, Value.int .i64 h1] 56)) := (Ext.refl w).cells _ _
  go_loopw [2] (fun e wr => ∃ (j : Nat) (l h : Int), e = .int .i64 (e0 - (j : Int)) ∧ j ≤ J ∧ Up m j l h ∧ Own wr w.heap.size (.int .i64 l) (.int .i64 h) ∧ Ext w wr) (fun e _ => (intOf e + 20000).toNat)
  case atStart => exact ⟨0, l0, h1, by simp, Nat.zero_le _, u0, o0, hE⟩
  case round =>
    obtain ⟨j, l, h, rfl, hjJ, u, p, hx⟩ := hrel
    clear o0 hE u0
    have nz := u.nz H0.out
    obtain ⟨t0, t1, t2, _⟩ := u.par.top
    have c0 := p.c0
    have c1 := p.c1
    have f0 := p.f0
    have f1 := p.f1
    have lt := p.lt
    have j0 := nat_low j
    have j1 : (j : Int) ≤ 124 := by omega
    by_cases hc : j < J
    · obtain ⟨hlt, l', h', u', ht⟩ := u.go H0.out HM.out (by rw [← HJ.out]; exact hc)
      have HT := Lib.hid ht
      have U' := Lib.hid u'
      have HC := Lib.hid hc
      clear ht u' u hc
      go_wp2_with fail
      refine (HT.out _).mono ?_
      rintro e w' ⟨rfl, hx1⟩
      have p1 := p.ext hx1
      have hx2 := hx.trans hx1
      clear c0 c1 f0 f1 lt p hx hx1
      have c0 := p1.c0
      have c1 := p1.c1
      have f0 := p1.f0
      have f1 := p1.f1
      have lt := p1.lt
      go_wp2_with fail
      go_roundw
      case rel => exact ⟨j + 1, l', h', v_i64 (by omega), HC.out, U'.out, p1.set _ _, hx2.set2 (Nat.le_refl _) _ _⟩
      case measure => simp [intOf]; omega
    · obtain ⟨hge, ej⟩ := u.stop H0.out HM.out (by rw [← HJ.out]; exact hc)
      rw [← HJ.out] at ej
      subst ej
      have TC2 := Lib.hid (TC.out l h u)
      clear hc u TC
      go_wp2_with fail
      refine (TC2.out _).mono ?_
      rintro e w' ⟨rfl, hx1⟩
      go_wp2_with fail
      go_ret
      exact ⟨rfl, hx.trans hx1⟩
end Go.Proofs.YthmdobajilladaaDoor
