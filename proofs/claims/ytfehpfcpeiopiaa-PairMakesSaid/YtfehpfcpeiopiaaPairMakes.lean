/- PairMakes: for all arguments given, the call returns true and the arguments read as before. No condition. -/
import Derived.Test.YtfehpfcpeiopiaaRows
import Derived.Test.YtfehpfcpeiopiaaC2Laws
import Derived.WalkKit
import Derived.ProofKit
import Derived.OpenShut
namespace Go.Proofs.Ytfehpfcpeiopiaa.pairMakes
open Go.ChangeShapes Go.WideShapes Go.ChangeAt Go.RowKit
set_option linter.unusedVariables false

theorem own : ownKnob Try.prog.godebug = none := by kernel_rfl

theorem makes_math (a b c : Int) (ha : I64 a) (hb : I64 b) (hz : b ≠ 0) :
    (∃ N, N = U a * U b + U c % U b ∧ V (wrap64 (U c % U b)) 0 = U c % U b ∧ W (lo N) (hi N) / U b = U a ∧ W (lo N) (hi N) % U b = U c % U b) ∧ lo (U a) = a ∧ decide (U a ≤ 18446744073709551615) = true ∧ 1 ≤ U b := by
  obtain ⟨a1, a2⟩ := U_bd a
  obtain ⟨b1, b2⟩ := U_bd b
  have hb0 : 1 ≤ U b := by have : U b ≠ 0 := by unfold U; unfold I64 at hb; omega
                           omega
  have m0 : 0 ≤ U c % U b := Int.emod_nonneg _ (by omega)
  have m1 : U c % U b < U b := Int.emod_lt_of_pos _ (by omega)
  refine ⟨⟨_, rfl, ?_, ?_⟩, ?_, decide_eq_true a2, hb0⟩
  · unfold V
    unfold U wrap64
    unfold U at m0 m1 b2
    omega
  · have h1 : U a * U b ≤ 18446744073709551615 * U b := Int.mul_le_mul_of_nonneg_right a2 b1
    have h0 : 0 ≤ U a * U b := Int.mul_nonneg a1 b1
    rw [W_mk _ (by omega) (by omega)]
    have e := (Int.ediv_emod_unique (a := U a * U b + U c % U b) (b := U b) (r := U c % U b) (q := U a) (by omega)).2 ⟨by rw [Int.mul_comm (U b)]; omega, m0, m1⟩
    exact e
  · unfold lo U wrap64; unfold I64 at ha; omega
theorem mul_bd (a b : Int) (ha : I64 a) (hb : I64 b) : -85070591730234615865843651857942052864 ≤ a * b ∧ a * b ≤ 85070591730234615865843651857942052864 := by
  unfold I64 at *
  have h : (a * b).natAbs ≤ 9223372036854775808 * 9223372036854775808 := by
    rw [Int.natAbs_mul]
    exact Nat.mul_le_mul (by omega) (by omega)
  omega
theorem V_prod (a b : Int) (ha : I64 a) (hb : I64 b) : V (lo (a * b)) (hi (a * b)) = a * b := by
  obtain ⟨h0, h1⟩ := mul_bd a b ha hb
  generalize a * b = n at *
  unfold V U lo hi wrap64
  omega
theorem FQ_prod (a b : Int) (hz : b ≠ 0) : FQ (a * b) b = a ∧ FR (a * b) b = 0 := by
  refine floor_one (by omega) ?_
  omega
set_option maxHeartbeats 8000000 in
set_option maxRecDepth 100000 in
theorem walk (a0 : Int) (w0 : (Lit.int .i64 a0).wf = true) (a1 : Int) (w1 : (Lit.int .i64 a1).wf = true) (a2 : Int) (w2 : (Lit.int .i64 a2).wf = true) (w : World) :
    Calls Try.prog 6 #[.int .i64 a0, .int .i64 a1, .int .i64 a2] w fun e w' => e = .returned (.bool true) ∧ Grown w w' := by
  suffices hsuf : Calls Try.prog 6 #[.int .i64 a0, .int .i64 a1, .int .i64 a2] w fun e w' => e = .returned (.bool true) ∧ Ext w w' from hsuf.mono fun e w' ⟨he, hx⟩ => ⟨he, hx.grown⟩
  have h0 := i64_of_wf w0
  have h1 := i64_of_wf w1
  have h2 := i64_of_wf w2
  have hX := Ext.refl w
  have ea : IntKind.u64.wrap a2 = U a2 := u64_wrap a2
  have eb : IntKind.u64.wrap a1 = U a1 := u64_wrap a1
  by_cases hz : a1 = 0
  · subst hz
    clear w0 w1 w2 h0 h1 h2
    go_enter Try.func6, Try.ntmps6
    go_wp2_with fail
    refine (shown_calls _ _ (Ext.refl _)).mono ?_
    rintro e y0 ⟨rfl, hx⟩
    go_wp2_with fail
    go_ret
    exact ⟨rfl, hx⟩
  have hz2 : (a1 == 0) = false := by simpa using hz
  obtain ⟨⟨N, hN, m1, m2, m3⟩, m4, m5, m6⟩ := makes_math a0 a1 a2 h0 h1 hz
  have hU := U_bd a2
  have c1 := Lib.hid (fun W => umul_calls W a0 a1 h0 h1 W (Ext.refl W))
  have hx := fun W => add_calls W (lo (U a0 * U a1)) (hi (U a0 * U a1)) (wrap64 (U a2 % U a1)) 0 (lo_i64 _) (hi_i64 _) (i64_wrap _) (by unfold I64; omega) W (Ext.refl W)
  rw [m1, (same_add _ _).1, (same_add _ _).2, ← hN] at hx
  have c2 := Lib.hid hx
  clear hx
  have hx := fun W => udiv_calls W (lo N) (hi N) a1 (lo_i64 _) (hi_i64 _) h1 W (Ext.refl W)
  rw [m2, m3, m4, m5, hz2, okR_near, okR_near, okE_near] at hx
  have c3 := Lib.hid hx
  clear hx
  have c4 := Lib.hid (fun W => mul_calls W a0 a1 h0 h1 W (Ext.refl W))
  have hx := fun W => trunc_calls W (lo (a0 * a1)) (hi (a0 * a1)) a1 (lo_i64 _) (hi_i64 _) h1 W (Ext.refl W)
  rw [V_prod a0 a1 h0 h1, Int.mul_tdiv_cancel _ hz, Int.mul_tmod_left, cel_of h0, hz2, okR_near, okR_near, okE_near] at hx
  have c5 := Lib.hid hx
  clear hx
  have hx := fun W => floor_calls W (lo (a0 * a1)) (hi (a0 * a1)) a1 (lo_i64 _) (hi_i64 _) h1 W (Ext.refl W)
  rw [V_prod a0 a1 h0 h1, (FQ_prod a0 a1 hz).1, (FQ_prod a0 a1 hz).2, cel_of h0, hz2, okR_near, okR_near, okE_near] at hx
  have c6 := Lib.hid hx
  clear hx hN m1 m2 m3 m4 m5 h0 h1 h2 w0 w1 w2
  generalize lo N = p0 at c2 c3
  generalize hi N = p1 at c2 c3
  generalize lo (U a0 * U a1) = u0 at c1 c2
  generalize hi (U a0 * U a1) = u1 at c1 c2
  generalize lo (a0 * a1) = n0 at c4 c5 c6
  generalize hi (a0 * a1) = n1 at c4 c5 c6
  generalize U a2 = C at *
  generalize U a1 = B at *
  obtain ⟨C', rfl⟩ := Int.eq_ofNat_of_zero_le hU.1
  obtain ⟨B', rfl⟩ := Int.eq_ofNat_of_zero_le (show 0 ≤ B by omega)
  have em : wrap64 ((C' : Int) % (B' : Int)) = wrap64 ((C' : Int) % (B' : Int)) := rfl
  have hB0 : ¬ B' = 0 := by omega
  have hB1 : ((B' : Int) == 0) = false := by simp; omega
  clear hU em
  go_enter Try.func6, Try.ntmps6
  go_wp2_with fail
  refine (shown_calls _ _ (Ext.refl _)).mono ?_
  rintro e y0 ⟨rfl, hx⟩
  replace hX := hX.trans hx
  clear hx
  go_wp2_with fail
  have hs := hX.1.size
  refine (c1.out _).mono ?_
  rintro e y1 ⟨rfl, hx⟩
  replace hX := hX.trans hx
  clear hx
  go_wp2_with fail
  refine (c2.out _).mono ?_
  rintro e y2 ⟨rfl, hx⟩
  replace hX := hX.trans hx
  clear hx
  go_wp2_with fail
  replace hX := hX.cells #[.int .i64 p0, .int .i64 p1] 24
  refine (c3.out _).mono ?_
  rintro e y3 ⟨rfl, hx⟩
  replace hX := hX.trans hx
  clear hx
  go_wp2_with fail
  refine (c4.out _).mono ?_
  rintro e y4 ⟨rfl, hx⟩
  replace hX := hX.trans hx
  clear hx
  go_wp2_with fail
  refine (c5.out _).mono ?_
  rintro e y5 ⟨rfl, hx⟩
  replace hX := hX.trans hx
  clear hx
  go_wp2_with fail
  refine (c4.out _).mono ?_
  rintro e y6 ⟨rfl, hx⟩
  replace hX := hX.trans hx
  clear hx
  go_wp2_with fail
  refine (c6.out _).mono ?_
  rintro e y7 ⟨rfl, hx⟩
  replace hX := hX.trans hx
  clear hx
  go_wp2_with fail
  go_ret
  exact ⟨rfl, hX⟩

set_option maxRecDepth 100000 in
theorem lifted (os : Os) (started : os.Started) (H : Type) (enc : TypeId × Value → H) :
    ReturnsInHanded {} Try.checked os 6 .any (Rows.pairMakesSpec.pre6 enc Try.prog Try.f6 Rows.pairMakesRow.domain false) (Rows.pairMakesSpec.post enc Try.prog Try.f6 false true false false) := by
  refine returnsInHanded_of_change (C := Try.checked) own started (by kernel_rfl) Try.func6
    (ChangeSpec.witness6 (enc := enc) (C := Try.checked) false ⟨#[], #[.int .i64 0, .int .i64 0, .int .i64 0], []⟩ 8 (by kernel_rfl) (by kernel_rfl) (by kernel_rfl) (by kernel_rfl)) ?_
  intro W base args ds gs before hval0 hW hcnd _
  have hval : ∀ (j : Nat) t v, Try.f6.params[j]? = some t → args[j]? = some v → Value.okWide Try.prog W .any base t v := hval0
  have hW' := hW
  obtain ⟨p, q, hA0, hV, rfl, hfz, hnd⟩ := hW
  have hA : DataW.TrodAll enc Try.prog W 0 (fun _ => true) true Try.f6.params.toList args.toList ds p := hA0
  rw [Try.params6] at hA hval
  obtain ⟨v0, vs0, d0, ds0, p0, q0, hargs, rfl, rfl, h0, r0⟩ := trodAll_cons hA
  obtain ⟨v1, vs1, d1, ds1, p1, q1, rfl, rfl, rfl, h1, r1⟩ := trodAll_cons r0
  obtain ⟨v2, vs2, d2, ds2, p2, q2, rfl, rfl, rfl, h2, r2⟩ := trodAll_cons r1
  obtain ⟨rfl, rfl, rfl⟩ := trodAll_nil r2
  obtain rfl : args = #[v0, v1, v2] := by cases args; simp_all
  obtain ⟨rfl, rfl⟩ := trodVars_none hV
  obtain ⟨a0, rfl, rfl, rfl, w0⟩ := open_int Try.underlying22 (hval 0 22 v0 rfl rfl) h0
  obtain ⟨a1, rfl, rfl, rfl, w1⟩ := open_int Try.underlying22 (hval 1 22 v1 rfl rfl) h1
  obtain ⟨a2, rfl, rfl, rfl, w2⟩ := open_int Try.underlying22 (hval 2 22 v2 rfl rfl) h2
  clear hA0 hval0
  simp only [List.append_nil] at hW'
  refine (walk a0 w0 a1 w1 a2 w2 W).mono fun e W' ⟨he, hg⟩ => ?_
  subst he
  exact ⟨_, rfl, post_of_same (pa := []) (pv := []) hW' (fun _ _ _ => (trodAll_cons_mk (shut_bool Try.underlying4 _) trodAll_mk0)) (fun sp _ => (trodAll_cons_mk (shut_int Try.underlying22 w0) (trodAll_cons_mk (shut_int Try.underlying22 w1) (trodAll_cons_mk (shut_int Try.underlying22 w2) trodAll_mk0)))) (fun _ _ => rfl) rfl
    (hg.frame _) hg.2.1 (ok_one (by kernel_rfl) rfl (okWide_bool_mk Try.underlying4 _))⟩

theorem over : Rows.pairMakesRow.holds Try.pinned (OpenSpec.ofChange Rows.pairMakesSpec) :=
  OpenClaim.holds_of_wide 6 Try.f6 rfl rfl rfl rfl rfl rfl rfl ⟨rfl, rfl, rfl, rfl, rfl⟩ rfl rfl rfl rfl rfl (by kernel_rfl) Try.func6 (by kernel_rfl)
    (of_decide_eq_true (by kernel_rfl)) (by unfold Func.isWrapper; first | (rw [if_pos (by decide +kernel)]; kernel_rfl) | (rw [if_neg (by decide +kernel)]; exact ⟨rfl, rfl⟩))
    (fun os started H enc _ => lifted os started H enc)

/-- THE STATEMENT -/
theorem proved : Rows.PairMakesSaid :=
  over
#print axioms proved
end Go.Proofs.Ytfehpfcpeiopiaa.pairMakes
