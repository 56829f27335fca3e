/- PairSums: for all arguments given, the call returns true and the arguments read as before. No condition. -/
import Derived.Test.YtfehpfcpeiopiaaRows
import Derived.Test.YtfehpfcpeiopiaaC2Laws
import Derived.Test.YtfehpfcpeiopiaaBit
import Derived.WalkKit
import Derived.ProofKit
import Derived.OpenShut
namespace Go.Proofs.Ytfehpfcpeiopiaa.pairSums
open Go.ChangeShapes Go.WideShapes Go.ChangeAt Go.RowKit
set_option linter.unusedVariables false

theorem own : ownKnob Try.prog.godebug = none := by kernel_rfl

theorem held6 {f : FuncId} {xs : Array Value} {v : Value} {w0 : World} {p q r s p' q' : Addr} {x y z t x' y' : Value} (h : ∀ W, Calls Try.prog f xs W fun e w' => e = .returned v ∧ Ext W w') (W : World) (hS : (W.cell? p = some x ∧ W.cell? q = some y ∧ W.cell? r = some z ∧ W.cell? s = some t ∧ W.cell? p' = some x' ∧ W.cell? q' = some y') ∧ Ext w0 W) :
    Calls Try.prog f xs W fun e w' => e = .returned v ∧ ((w'.cell? p = some x ∧ w'.cell? q = some y ∧ w'.cell? r = some z ∧ w'.cell? s = some t ∧ w'.cell? p' = some x' ∧ w'.cell? q' = some y') ∧ Ext w0 w') :=
  (h W).mono fun e w' ⟨he, hx⟩ => ⟨he, ⟨ext_keeps hx hS.1.1, ext_keeps hx hS.1.2.1, ext_keeps hx hS.1.2.2.1, ext_keeps hx hS.1.2.2.2.1, ext_keeps hx hS.1.2.2.2.2.1, ext_keeps hx hS.1.2.2.2.2.2⟩, hS.2.trans hx⟩
structure Six (w0 W : World) (b : Nat) (x y z t u v : Value) : Prop where
  c0 : W.cell? ⟨b, 0, none⟩ = some x
  c1 : W.cell? ⟨b, 1, none⟩ = some y
  c2 : W.cell? ⟨b + 1, 0, none⟩ = some z
  c3 : W.cell? ⟨b + 1, 1, none⟩ = some t
  c4 : W.cell? ⟨b + 1 + 1, 0, none⟩ = some u
  c5 : W.cell? ⟨b + 1 + 1, 1, none⟩ = some v
  x : Ext w0 W
theorem Six.ext {w0 W W' : World} {b : Nat} {x y z t u v : Value} (h : Six w0 W b x y z t u v) (k : Ext W W') : Six w0 W' b x y z t u v :=
  ⟨ext_keeps k h.c0, ext_keeps k h.c1, ext_keeps k h.c2, ext_keeps k h.c3, ext_keeps k h.c4, ext_keeps k h.c5, h.x.trans k⟩
theorem Six.cells {w0 W : World} {b : Nat} {x y z t u v : Value} (h : Six w0 W b x y z t u v) (c : Array Value) (T : TypeId) : Six w0 (W.alloc (.cells c T)) b x y z t u v := h.ext ((Ext.refl _).cells c T)
/-- Half of twice a pair: the pair, or it with its highest bit turned. -/
theorem half_twice (a b : Int) (ha : I64 a) (hb : I64 b) : lo (V (lo (2 * V a b)) (hi (2 * V a b)) / 2) = a ∧ (hi (V (lo (2 * V a b)) (hi (2 * V a b)) / 2) = b ∨ hi (V (lo (2 * V a b)) (hi (2 * V a b)) / 2) = bits .xor .i64 b (-9223372036854775808)) := by
  rw [xor_min b hb]
  have hv := V_bd (l := a) hb
  have hl := lo_V (h := b) ha
  have hh := hi_V (l := a) hb
  generalize V a b = n at *
  subst hl hh
  unfold V U lo hi wrap64
  unfold I64 hi wrap64 at hb
  refine ⟨by omega, ?_⟩
  split <;> omega
theorem mul_more (x z : Int) : lo (V (lo (x * z)) (hi (x * z)) + V (lo z) (hi z)) = lo ((x + 1) * z) ∧ hi (V (lo (x * z)) (hi (x * z)) + V (lo z) (hi z)) = hi ((x + 1) * z) := by
  rw [(same_add2 _ _).1, (same_add2 _ _).2, Int.add_mul, Int.one_mul]
  exact ⟨rfl, rfl⟩
theorem mul_over (z : Int) (hz : I64 z) (h : z ≠ 0) : (lo (9223372036854775808 * z) == lo (-9223372036854775808 * z) && hi (9223372036854775808 * z) == hi (-9223372036854775808 * z)) = false := by
  rw [Bool.and_eq_false_iff]
  right
  rw [beq_eq_false_iff_ne]
  unfold hi wrap64
  unfold I64 at hz
  omega
set_option maxHeartbeats 8000000 in
set_option maxRecDepth 100000 in
theorem walk (a0 b0 : Int) (w0 : (Lit.int .i64 a0).wf = true) (v0 : (Lit.int .i64 b0).wf = true) (a1 b1 : Int) (w1 : (Lit.int .i64 a1).wf = true) (v1 : (Lit.int .i64 b1).wf = true) (a2 b2 : Int) (w2 : (Lit.int .i64 a2).wf = true) (v2 : (Lit.int .i64 b2).wf = true) (w : World) :
    Calls Try.prog 7 #[.agg #[.int .i64 a0, .int .i64 b0], .agg #[.int .i64 a1, .int .i64 b1], .agg #[.int .i64 a2, .int .i64 b2]] w fun e w' => e = .returned (.bool true) ∧ Grown w w' := by
  suffices hsuf : Calls Try.prog 7 #[.agg #[.int .i64 a0, .int .i64 b0], .agg #[.int .i64 a1, .int .i64 b1], .agg #[.int .i64 a2, .int .i64 b2]] w fun e w' => e = .returned (.bool true) ∧ Ext w w' from hsuf.mono fun e w' ⟨he, hx⟩ => ⟨he, hx.grown⟩
  have h0 := i64_of_wf w0
  have k0 := i64_of_wf v0
  have h1 := i64_of_wf w1
  have k1 := i64_of_wf v1
  have h2 := i64_of_wf w2
  have k2 := i64_of_wf v2
  have hx := fun W => add_calls W a0 b0 a1 b1 h0 k0 h1 k1 W (Ext.refl W)
  have cAB := Lib.hid hx
  clear hx
  have hx := fun W => add_calls W a1 b1 a0 b0 h1 k1 h0 k0 W (Ext.refl W)
  rw [Int.add_comm (V a1 b1) (V a0 b0)] at hx
  have cBA := Lib.hid hx
  clear hx
  have hx := fun W => add_calls W (lo (V a0 b0 + V a1 b1)) (hi (V a0 b0 + V a1 b1)) a2 b2 (lo_i64 _) (hi_i64 _) h2 k2 W (Ext.refl W)
  rw [(same_add _ _).1, (same_add _ _).2] at hx
  have cABC := Lib.hid hx
  clear hx
  have hx := fun W => add_calls W a1 b1 a2 b2 h1 k1 h2 k2 W (Ext.refl W)
  have cBC := Lib.hid hx
  clear hx
  have hx := fun W => add_calls W a0 b0 (lo (V a1 b1 + V a2 b2)) (hi (V a1 b1 + V a2 b2)) h0 k0 (lo_i64 _) (hi_i64 _) W (Ext.refl W)
  rw [Int.add_comm (V a0 b0), (same_add _ _).1, (same_add _ _).2, Int.add_comm _ (V a0 b0), ← Int.add_assoc] at hx
  have cABC2 := Lib.hid hx
  clear hx
  have hx := fun W => neg_calls W a0 b0 h0 k0 W (Ext.refl W)
  have cN := Lib.hid hx
  clear hx
  have hx := fun W => add_calls W a0 b0 (lo (-V a0 b0)) (hi (-V a0 b0)) h0 k0 (lo_i64 _) (hi_i64 _) W (Ext.refl W)
  rw [Int.add_comm (V a0 b0), (same_add _ _).1, (same_add _ _).2, Int.add_left_neg, show lo 0 = 0 by decide +kernel, show hi 0 = 0 by decide +kernel] at hx
  have cAN := Lib.hid hx
  clear hx
  have hx := fun W => twice_calls W a0 b0 h0 k0 W (Ext.refl W)
  have cTw := Lib.hid hx
  clear hx
  have hx := fun W => add_calls W a0 b0 a0 b0 h0 k0 h0 k0 W (Ext.refl W)
  rw [← Int.two_mul] at hx
  have cAA := Lib.hid hx
  clear hx
  have hx := fun W => half_calls W (lo (2 * V a0 b0)) (hi (2 * V a0 b0)) (lo_i64 _) (hi_i64 _) W (Ext.refl W)
  have cHf := Lib.hid hx
  clear hx
  obtain ⟨q1, q2⟩ := half_twice a0 b0 h0 k0
  rw [q1] at cHf
  have hx := fun W => mul_calls W a0 a2 h0 h2 W (Ext.refl W)
  have cXZ := Lib.hid hx
  clear hx
  have hx := fun W => of_calls W a2 h2 W (Ext.refl W)
  have cZ := Lib.hid hx
  clear hx
  have hx := fun W => add_calls W (lo (a0 * a2)) (hi (a0 * a2)) (lo a2) (hi a2) (lo_i64 _) (hi_i64 _) (lo_i64 _) (hi_i64 _) W (Ext.refl W)
  rw [(mul_more _ _).1, (mul_more _ _).2] at hx
  have cXZZ := Lib.hid hx
  clear hx
  have hx := fun W => mul_calls W (wrap64 (a0 + 1)) a2 (i64_wrap _) h2 W (Ext.refl W)
  have cXZ1 := Lib.hid hx
  clear hx
  have hx := fun W => mul_calls W a0 a1 h0 h1 W (Ext.refl W)
  have cXY := Lib.hid hx
  clear hx
  have hx := fun W => mul_calls W a1 a0 h1 h0 W (Ext.refl W)
  rw [Int.mul_comm a1 a0] at hx
  have cYX := Lib.hid hx
  clear hx
  have hx := fun W => umul_calls W a0 a1 h0 h1 W (Ext.refl W)
  have cuXY := Lib.hid hx
  clear hx
  have hx := fun W => umul_calls W a1 a0 h1 h0 W (Ext.refl W)
  rw [Int.mul_comm (U a1) (U a0)] at hx
  have cuYX := Lib.hid hx
  clear hx
  have hx := fun W => mul_calls W a0 (-1) h0 (by unfold I64; omega) W (Ext.refl W)
  rw [show a0 * -1 = -a0 by omega] at hx
  have cXm := Lib.hid hx
  clear hx
  have hx := fun W => of_calls W a0 h0 W (Ext.refl W)
  have cX := Lib.hid hx
  clear hx
  have hx := fun W => neg_calls W (lo a0) (hi a0) (lo_i64 _) (hi_i64 _) W (Ext.refl W)
  rw [(neg_same _).1, (neg_same _).2] at hx
  have cNX := Lib.hid hx
  clear hx
  have hb1 := i64_bd h0
  have q3 : (RowKit.Hid (a0 = 9223372036854775807 ∧ a2 ≠ 0 ∧ (lo ((a0 + 1) * a2) == lo (wrap64 (a0 + 1) * a2) && hi ((a0 + 1) * a2) == hi (wrap64 (a0 + 1) * a2)) = false))
      ∨ (RowKit.Hid ((a0 ≠ 9223372036854775807 ∨ a2 = 0) ∧ lo (wrap64 (a0 + 1) * a2) = lo ((a0 + 1) * a2) ∧ hi (wrap64 (a0 + 1) * a2) = hi ((a0 + 1) * a2))) := by
    by_cases hm : a0 = 9223372036854775807
    · by_cases hz : a2 = 0
      · refine .inr (Lib.hid ⟨.inr hz, ?_⟩)
        subst hz
        rw [Int.mul_zero, Int.mul_zero]
        exact ⟨rfl, rfl⟩
      · refine .inl (Lib.hid ⟨hm, hz, ?_⟩)
        subst hm
        have e := mul_over a2 h2 hz
        rw [show (9223372036854775807 : Int) + 1 = 9223372036854775808 by decide, show wrap64 9223372036854775808 = -9223372036854775808 by decide +kernel]
        exact e
    · refine .inr (Lib.hid ⟨.inl hm, ?_⟩)
      rw [wrap_id (a := a0 + 1) (by unfold I64; omega)]
      exact ⟨rfl, rfl⟩
  generalize lo (V a0 b0 + V a1 b1 + V a2 b2) = abc0 at *
  generalize hi (V a0 b0 + V a1 b1 + V a2 b2) = abc1 at *
  generalize lo (V a0 b0 + V a1 b1) = ab0 at *
  generalize hi (V a0 b0 + V a1 b1) = ab1 at *
  generalize lo (V a1 b1 + V a2 b2) = bc0 at *
  generalize hi (V a1 b1 + V a2 b2) = bc1 at *
  generalize lo (-V a0 b0) = na0 at *
  generalize hi (-V a0 b0) = na1 at *
  generalize lo (2 * V a0 b0) = tw0 at *
  generalize hi (2 * V a0 b0) = tw1 at *
  generalize hi (V tw0 tw1 / 2) = hh at *
  generalize lo (a0 * a2) = xz0 at *
  generalize hi (a0 * a2) = xz1 at *
  generalize lo (a0 * a1) = xy0 at *
  generalize hi (a0 * a1) = xy1 at *
  generalize lo (U a0 * U a1) = uxy0 at *
  generalize hi (U a0 * U a1) = uxy1 at *
  generalize lo (wrap64 (a0 + 1) * a2) = xo0 at *
  generalize hi (wrap64 (a0 + 1) * a2) = xo1 at *
  generalize lo ((a0 + 1) * a2) = xp0 at *
  generalize hi ((a0 + 1) * a2) = xp1 at *
  generalize lo (-a0) = nx0 at *
  generalize hi (-a0) = nx1 at *
  generalize lo (a0) = xx0 at *
  generalize hi (a0) = xx1 at *
  generalize lo (a2) = zz0 at *
  generalize hi (a2) = zz1 at *
  obtain ⟨xb, hxb⟩ : ∃ x, bits .xor .i64 b0 (-9223372036854775808) = x := ⟨_, rfl⟩
  obtain ⟨xw, hxw⟩ : ∃ x, wrap64 (a0 + 1) = x := ⟨_, rfl⟩
  rw [hxb] at q2
  rw [hxw] at cXZ1
  have HQ2 := Lib.hid q2
  clear q1 q2 hb1 h0 k0 h1 k1 h2 k2 w0 v0 w1 v1 w2 v2
  have kcAB := Lib.hid (held6 (w0 := w) (p := ⟨w.heap.size, 0, none⟩) (q := ⟨w.heap.size, 1, none⟩) (r := ⟨w.heap.size + 1, 0, none⟩) (s := ⟨w.heap.size + 1, 1, none⟩) (p' := ⟨w.heap.size + 1 + 1, 0, none⟩) (q' := ⟨w.heap.size + 1 + 1, 1, none⟩) (x := .int .i64 a0) (y := .int .i64 b0) (z := .int .i64 a1) (t := .int .i64 b1) (x' := .int .i64 a2) (y' := .int .i64 b2) cAB.out)
  have kcBA := Lib.hid (held6 (w0 := w) (p := ⟨w.heap.size, 0, none⟩) (q := ⟨w.heap.size, 1, none⟩) (r := ⟨w.heap.size + 1, 0, none⟩) (s := ⟨w.heap.size + 1, 1, none⟩) (p' := ⟨w.heap.size + 1 + 1, 0, none⟩) (q' := ⟨w.heap.size + 1 + 1, 1, none⟩) (x := .int .i64 a0) (y := .int .i64 b0) (z := .int .i64 a1) (t := .int .i64 b1) (x' := .int .i64 a2) (y' := .int .i64 b2) cBA.out)
  have kcABC := Lib.hid (held6 (w0 := w) (p := ⟨w.heap.size, 0, none⟩) (q := ⟨w.heap.size, 1, none⟩) (r := ⟨w.heap.size + 1, 0, none⟩) (s := ⟨w.heap.size + 1, 1, none⟩) (p' := ⟨w.heap.size + 1 + 1, 0, none⟩) (q' := ⟨w.heap.size + 1 + 1, 1, none⟩) (x := .int .i64 a0) (y := .int .i64 b0) (z := .int .i64 a1) (t := .int .i64 b1) (x' := .int .i64 a2) (y' := .int .i64 b2) cABC.out)
  have kcBC := Lib.hid (held6 (w0 := w) (p := ⟨w.heap.size, 0, none⟩) (q := ⟨w.heap.size, 1, none⟩) (r := ⟨w.heap.size + 1, 0, none⟩) (s := ⟨w.heap.size + 1, 1, none⟩) (p' := ⟨w.heap.size + 1 + 1, 0, none⟩) (q' := ⟨w.heap.size + 1 + 1, 1, none⟩) (x := .int .i64 a0) (y := .int .i64 b0) (z := .int .i64 a1) (t := .int .i64 b1) (x' := .int .i64 a2) (y' := .int .i64 b2) cBC.out)
  have kcABC2 := Lib.hid (held6 (w0 := w) (p := ⟨w.heap.size, 0, none⟩) (q := ⟨w.heap.size, 1, none⟩) (r := ⟨w.heap.size + 1, 0, none⟩) (s := ⟨w.heap.size + 1, 1, none⟩) (p' := ⟨w.heap.size + 1 + 1, 0, none⟩) (q' := ⟨w.heap.size + 1 + 1, 1, none⟩) (x := .int .i64 a0) (y := .int .i64 b0) (z := .int .i64 a1) (t := .int .i64 b1) (x' := .int .i64 a2) (y' := .int .i64 b2) cABC2.out)
  have kcN := Lib.hid (held6 (w0 := w) (p := ⟨w.heap.size, 0, none⟩) (q := ⟨w.heap.size, 1, none⟩) (r := ⟨w.heap.size + 1, 0, none⟩) (s := ⟨w.heap.size + 1, 1, none⟩) (p' := ⟨w.heap.size + 1 + 1, 0, none⟩) (q' := ⟨w.heap.size + 1 + 1, 1, none⟩) (x := .int .i64 a0) (y := .int .i64 b0) (z := .int .i64 a1) (t := .int .i64 b1) (x' := .int .i64 a2) (y' := .int .i64 b2) cN.out)
  have kcAN := Lib.hid (held6 (w0 := w) (p := ⟨w.heap.size, 0, none⟩) (q := ⟨w.heap.size, 1, none⟩) (r := ⟨w.heap.size + 1, 0, none⟩) (s := ⟨w.heap.size + 1, 1, none⟩) (p' := ⟨w.heap.size + 1 + 1, 0, none⟩) (q' := ⟨w.heap.size + 1 + 1, 1, none⟩) (x := .int .i64 a0) (y := .int .i64 b0) (z := .int .i64 a1) (t := .int .i64 b1) (x' := .int .i64 a2) (y' := .int .i64 b2) cAN.out)
  have kcTw := Lib.hid (held6 (w0 := w) (p := ⟨w.heap.size, 0, none⟩) (q := ⟨w.heap.size, 1, none⟩) (r := ⟨w.heap.size + 1, 0, none⟩) (s := ⟨w.heap.size + 1, 1, none⟩) (p' := ⟨w.heap.size + 1 + 1, 0, none⟩) (q' := ⟨w.heap.size + 1 + 1, 1, none⟩) (x := .int .i64 a0) (y := .int .i64 b0) (z := .int .i64 a1) (t := .int .i64 b1) (x' := .int .i64 a2) (y' := .int .i64 b2) cTw.out)
  have kcAA := Lib.hid (held6 (w0 := w) (p := ⟨w.heap.size, 0, none⟩) (q := ⟨w.heap.size, 1, none⟩) (r := ⟨w.heap.size + 1, 0, none⟩) (s := ⟨w.heap.size + 1, 1, none⟩) (p' := ⟨w.heap.size + 1 + 1, 0, none⟩) (q' := ⟨w.heap.size + 1 + 1, 1, none⟩) (x := .int .i64 a0) (y := .int .i64 b0) (z := .int .i64 a1) (t := .int .i64 b1) (x' := .int .i64 a2) (y' := .int .i64 b2) cAA.out)
  go_enter Try.func7, Try.ntmps7
  go_wp2_with fail
  obtain ⟨o0, o1, o2⟩ := own3 w (.int .i64 a0) (.int .i64 b0) (.int .i64 a1) (.int .i64 b1) (.int .i64 a2) (.int .i64 b2)
  have hX := (((Ext.refl w).cells #[.int .i64 a0, .int .i64 b0] 24).cells #[.int .i64 a1, .int .i64 b1] 24).cells #[.int .i64 a2, .int .i64 b2] 24
  refine (shown_calls _ _ (Ext.refl _)).mono ?_
  rintro e y0 ⟨rfl, hx⟩
  replace o0 := o0.ext hx
  replace o1 := o1.ext hx
  replace o2 := o2.ext hx
  replace hX := hX.trans hx
  clear hx
  go_wp2_with fail
  go_region_held3 (fun W => (W.cell? ⟨w.heap.size, 0, none⟩ = some (.int .i64 a0) ∧ W.cell? ⟨w.heap.size, 1, none⟩ = some (.int .i64 b0) ∧ W.cell? ⟨w.heap.size + 1, 0, none⟩ = some (.int .i64 a1) ∧ W.cell? ⟨w.heap.size + 1, 1, none⟩ = some (.int .i64 b1) ∧ W.cell? ⟨w.heap.size + 1 + 1, 0, none⟩ = some (.int .i64 a2) ∧ W.cell? ⟨w.heap.size + 1 + 1, 1, none⟩ = some (.int .i64 b2)) ∧ Ext w W) (first | exact ⟨⟨o0.c0, o0.c1, o1.c0, o1.c1, o2.c0, o2.c1⟩, hX⟩ | exact ⟨⟨o0.c0, o0.c1, o1.c0, o1.c1, o2.c0, o2.c1⟩, hX.drew⟩ | exact hx | assumption)
    (first | (go_at_call 11; (with_reducible refine (kcAB.out _ ?_).mono ?_); assumption; rintro e w' ⟨rfl, hx⟩) | (go_at_call 11; (with_reducible refine (kcBA.out _ ?_).mono ?_); assumption; rintro e w' ⟨rfl, hx⟩) | (go_at_call 11; (with_reducible refine (kcABC.out _ ?_).mono ?_); assumption; rintro e w' ⟨rfl, hx⟩) | (go_at_call 11; (with_reducible refine (kcBC.out _ ?_).mono ?_); assumption; rintro e w' ⟨rfl, hx⟩) | (go_at_call 11; (with_reducible refine (kcABC2.out _ ?_).mono ?_); assumption; rintro e w' ⟨rfl, hx⟩) | (go_at_call 13; (with_reducible refine (kcN.out _ ?_).mono ?_); assumption; rintro e w' ⟨rfl, hx⟩) | (go_at_call 11; (with_reducible refine (kcAN.out _ ?_).mono ?_); assumption; rintro e w' ⟨rfl, hx⟩) | (go_at_call 15; (with_reducible refine (kcTw.out _ ?_).mono ?_); assumption; rintro e w' ⟨rfl, hx⟩) | (go_at_call 11; (with_reducible refine (kcAA.out _ ?_).mono ?_); assumption; rintro e w' ⟨rfl, hx⟩))
  clear o0 o1 o2 hX kcAB kcBA kcABC kcBC kcABC2 kcN kcAN kcTw kcAA
  obtain ⟨⟨p0, p1, p2, p3, p4, p5⟩, hX⟩ := hx
  have F : Six w w' w.heap.size (.int .i64 a0) (.int .i64 b0) (.int .i64 a1) (.int .i64 b1) (.int .i64 a2) (.int .i64 b2) := ⟨p0, p1, p2, p3, p4, p5, hX⟩
  go_wp2_with fail
  clear p0 p1 p2 p3 p4 p5
  refine (cTw.out _).mono ?_
  rintro e y1 ⟨rfl, hx⟩
  replace F := F.ext hx
  clear hx hX
  have p0 := F.c0
  have p1 := F.c1
  have p2 := F.c2
  have p3 := F.c3
  have p4 := F.c4
  have p5 := F.c5
  go_wp2_with fail
  clear p0 p1 p2 p3 p4 p5
  refine (cHf.out _).mono ?_
  rintro e y2 ⟨rfl, hx⟩
  replace F := F.ext hx
  replace F := F.cells #[.int .i64 a0, .int .i64 hh] 24
  have o3 := Own.last (X := y2) (x := Value.int .i64 a0) (y := Value.int .i64 hh) (t := 24)
  clear hx
  have p0 := F.c0
  have p1 := F.c1
  have p2 := F.c2
  have p3 := F.c3
  have p4 := F.c4
  have p5 := F.c5
  have r0 := o3.c0
  have r1 := o3.c1
  have q2 := HQ2.out
  clear HQ2 cAB cBA cABC cABC2 cBC cN cAN cTw cAA cHf
  have q4 : (hh == b0) = true ∨ ((hh == b0) = false ∧ hh = xb) := by
    by_cases hq : hh = b0
    · exact .inl (by simpa using hq)
    · exact .inr ⟨by simpa using hq, q2.resolve_left hq⟩
  have q5 : ((a0 != 9223372036854775807) = false ∧ (a2 == 0) = false ∧ (xp0 == xo0 && xp1 == xo1) = false) ∨ ((a0 != 9223372036854775807) = true ∧ xo0 = xp0 ∧ xo1 = xp1) ∨ ((a0 != 9223372036854775807) = false ∧ (a2 == 0) = true ∧ xo0 = xp0 ∧ xo1 = xp1) := by
    rcases q3 with q | q
    · obtain ⟨e1, e2, e3⟩ := q.out
      exact .inl ⟨by simpa using e1, by simpa using e2, e3⟩
    · obtain ⟨e1, e2, e3⟩ := q.out
      by_cases hm : a0 = 9223372036854775807
      · exact .inr (.inr ⟨by simpa using hm, by simpa using e1.resolve_left (fun h => h hm), e2, e3⟩)
      · exact .inr (.inl ⟨by simpa using hm, e2, e3⟩)
  clear q2 q3
  have hX2 := F.x
  have HY : Ext w (y2.alloc (Obj.cells #[Value.int IntKind.i64 a0, Value.int IntKind.i64 hh] 24)) := hX2
  clear F o3 hX2
  rcases q4 with q4 | ⟨q4, rfl⟩
  all_goals
    rcases q5 with ⟨e1, e2, e3⟩ | ⟨e1, rfl, rfl⟩ | ⟨e1, e2, rfl, rfl⟩
  all_goals
    go_wp2_with fail
    go_region
    replace HY := HY.drew
    clear p0 p1 p2 p3 p4 p5 r0 r1
    go_wp2_with fail
    refine (cXZ.out _).mono ?_
    rintro e z0 ⟨rfl, hx⟩
    replace HY := HY.trans hx
    clear hx
    go_wp2_with fail
    refine (cZ.out _).mono ?_
    rintro e z1 ⟨rfl, hx⟩
    replace HY := HY.trans hx
    clear hx
    go_wp2_with fail
    refine (cXZZ.out _).mono ?_
    rintro e z2 ⟨rfl, hx⟩
    replace HY := HY.trans hx
    clear hx
    go_wp2_with fail
    refine (cXZ1.out _).mono ?_
    rintro e z3 ⟨rfl, hx⟩
    replace HY := HY.trans hx
    clear hx
    go_wp2_with fail
    refine (cXY.out _).mono ?_
    rintro e z4 ⟨rfl, hx⟩
    replace HY := HY.trans hx
    clear hx
    go_wp2_with fail
    refine (cYX.out _).mono ?_
    rintro e z5 ⟨rfl, hx⟩
    replace HY := HY.trans hx
    clear hx
    go_wp2_with fail
    refine (cuXY.out _).mono ?_
    rintro e z6 ⟨rfl, hx⟩
    replace HY := HY.trans hx
    clear hx
    go_wp2_with fail
    refine (cuYX.out _).mono ?_
    rintro e z7 ⟨rfl, hx⟩
    replace HY := HY.trans hx
    clear hx
    go_wp2_with fail
    refine (cXm.out _).mono ?_
    rintro e z8 ⟨rfl, hx⟩
    replace HY := HY.trans hx
    clear hx
    go_wp2_with fail
    refine (cX.out _).mono ?_
    rintro e z9 ⟨rfl, hx⟩
    replace HY := HY.trans hx
    clear hx
    go_wp2_with fail
    refine (cNX.out _).mono ?_
    rintro e z10 ⟨rfl, hx⟩
    replace HY := HY.trans hx
    clear hx
    go_wp2_with fail
    go_ret
    exact ⟨rfl, HY⟩

set_option maxRecDepth 100000 in
theorem lifted (os : Os) (started : os.Started) (H : Type) (enc : TypeId × Value → H) :
    ReturnsInHanded {} Try.checked os 7 .any (Rows.pairSumsSpec.pre6 enc Try.prog Try.f7 Rows.pairSumsRow.domain false) (Rows.pairSumsSpec.post enc Try.prog Try.f7 false true false false) := by
  refine returnsInHanded_of_change (C := Try.checked) own started (by kernel_rfl) Try.func7
    (ChangeSpec.witness6 (enc := enc) (C := Try.checked) false ⟨#[], #[.agg #[.int .i64 0, .int .i64 0], .agg #[.int .i64 0, .int .i64 0], .agg #[.int .i64 0, .int .i64 0]], []⟩ 8 (by kernel_rfl) (by kernel_rfl) (by kernel_rfl) (by kernel_rfl)) ?_
  intro W base args ds gs before hval0 hW hcnd _
  have hval : ∀ (j : Nat) t v, Try.f7.params[j]? = some t → args[j]? = some v → Value.okWide Try.prog W .any base t v := hval0
  have hW' := hW
  obtain ⟨p, q, hA0, hV, rfl, hfz, hnd⟩ := hW
  have hA : DataW.TrodAll enc Try.prog W 0 (fun _ => true) true Try.f7.params.toList args.toList ds p := hA0
  rw [Try.params7] at hA hval
  obtain ⟨v0, vs0, d0, ds0, p0, q0, hargs, rfl, rfl, h0, r0⟩ := trodAll_cons hA
  obtain ⟨v1, vs1, d1, ds1, p1, q1, rfl, rfl, rfl, h1, r1⟩ := trodAll_cons r0
  obtain ⟨v2, vs2, d2, ds2, p2, q2, rfl, rfl, rfl, h2, r2⟩ := trodAll_cons r1
  obtain ⟨rfl, rfl, rfl⟩ := trodAll_nil r2
  obtain rfl : args = #[v0, v1, v2] := by cases args; simp_all
  obtain ⟨rfl, rfl⟩ := trodVars_none hV
  obtain ⟨a0, b0, rfl, rfl, rfl, w0, v0'⟩ := open_pair (hval 0 24 v0 rfl rfl) h0
  obtain ⟨a1, b1, rfl, rfl, rfl, w1, v1'⟩ := open_pair (hval 1 24 v1 rfl rfl) h1
  obtain ⟨a2, b2, rfl, rfl, rfl, w2, v2'⟩ := open_pair (hval 2 24 v2 rfl rfl) h2
  clear hA0 hval0
  simp only [List.append_nil] at hW'
  refine (walk a0 b0 w0 v0' a1 b1 w1 v1' a2 b2 w2 v2' W).mono fun e W' ⟨he, hg⟩ => ?_
  subst he
  exact ⟨_, rfl, post_of_same (pa := []) (pv := []) hW' (fun _ _ _ => (trodAll_cons_mk (shut_bool Try.underlying4 _) trodAll_mk0)) (fun sp _ => (trodAll_cons_mk (shut_pair w0 v0') (trodAll_cons_mk (shut_pair w1 v1') (trodAll_cons_mk (shut_pair w2 v2') trodAll_mk0)))) (fun _ _ => rfl) rfl
    (hg.frame _) hg.2.1 (ok_one (by kernel_rfl) rfl (okWide_bool_mk Try.underlying4 _))⟩

theorem over : Rows.pairSumsRow.holds Try.pinned (OpenSpec.ofChange Rows.pairSumsSpec) :=
  OpenClaim.holds_of_wide 7 Try.f7 rfl rfl rfl rfl rfl rfl rfl ⟨rfl, rfl, rfl, rfl, rfl⟩ rfl rfl rfl rfl rfl (by kernel_rfl) Try.func7 (by kernel_rfl)
    (of_decide_eq_true (by kernel_rfl)) (by unfold Func.isWrapper; first | (rw [if_pos (by decide +kernel)]; kernel_rfl) | (rw [if_neg (by decide +kernel)]; exact ⟨rfl, rfl⟩))
    (fun os started H enc _ => lifted os started H enc)

/-- THE STATEMENT -/
theorem proved : Rows.PairSumsSaid :=
  over
#print axioms proved
end Go.Proofs.Ytfehpfcpeiopiaa.pairSums
