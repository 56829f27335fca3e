/- PairDivides: for all arguments given, the call returns true and the arguments read as before. No condition. -/
import Derived.Test.YtfehpfcpeiopiaaRows
import Derived.Test.YtfehpfcpeiopiaaC2Laws
import Derived.WalkKit
import Derived.ProofKit
import Derived.OpenShut
namespace Go.Proofs.Ytfehpfcpeiopiaa.pairDivides
open Go.ChangeShapes Go.WideShapes Go.ChangeAt Go.RowKit
set_option linter.unusedVariables false

theorem own : ownKnob Try.prog.godebug = none := by kernel_rfl

set_option maxHeartbeats 8000000 in
set_option maxRecDepth 100000 in
theorem walk (a0 b0 : Int) (w0 : (Lit.int .i64 a0).wf = true) (v0 : (Lit.int .i64 b0).wf = true) (a1 : Int) (w1 : (Lit.int .i64 a1).wf = true) (w : World) :
    Calls Try.prog 4 #[.agg #[.int .i64 a0, .int .i64 b0], .int .i64 a1] w fun e w' => e = .returned (.bool true) ∧ Grown w w' := by
  suffices hsuf : Calls Try.prog 4 #[.agg #[.int .i64 a0, .int .i64 b0], .int .i64 a1] w fun e w' => e = .returned (.bool true) ∧ Ext w w' from hsuf.mono fun e w' ⟨he, hx⟩ => ⟨he, hx.grown⟩
  have h0 := i64_of_wf w0
  have h1 := i64_of_wf v0
  have h2 := i64_of_wf w1
  have hE := Ext.refl w
  have c1 := Lib.hid (fun W => udiv_calls W a0 b0 a1 h0 h1 h2 W (Ext.refl W))
  have c2 := Lib.hid (fun W => rudiv_calls W a0 b0 a1 h0 h1 h2 W (Ext.refl W))
  have c3 := Lib.hid (fun W => floor_calls W a0 b0 a1 h0 h1 h2 W (Ext.refl W))
  have c4 := Lib.hid (fun W => rfloor_calls W a0 b0 a1 h0 h1 h2 W (Ext.refl W))
  have c5 := Lib.hid (fun W => trunc_calls W a0 b0 a1 h0 h1 h2 W (Ext.refl W))
  have c6 := Lib.hid (fun W => rtrunc_calls W a0 b0 a1 h0 h1 h2 W (Ext.refl W))
  generalize okR (a1 == 0) (decide (W a0 b0 / U a1 ≤ 18446744073709551615)) (wrap64 (W a0 b0 % U a1)) = r1 at c1 c2
  generalize okR (a1 == 0) (decide (W a0 b0 / U a1 ≤ 18446744073709551615)) (lo (W a0 b0 / U a1)) = q1 at c1 c2
  generalize okE (a1 == 0) (decide (W a0 b0 / U a1 ≤ 18446744073709551615)) = e1 at c1 c2
  generalize okR (a1 == 0) (cel (FQ (V a0 b0) a1)) (FR (V a0 b0) a1) = r2 at c3 c4
  generalize okR (a1 == 0) (cel (FQ (V a0 b0) a1)) (FQ (V a0 b0) a1) = q2 at c3 c4
  generalize okE (a1 == 0) (cel (FQ (V a0 b0) a1)) = e2 at c3 c4
  generalize okR (a1 == 0) (cel ((V a0 b0).tdiv a1)) ((V a0 b0).tmod a1) = r3 at c5 c6
  generalize okR (a1 == 0) (cel ((V a0 b0).tdiv a1)) ((V a0 b0).tdiv a1) = q3 at c5 c6
  generalize okE (a1 == 0) (cel ((V a0 b0).tdiv a1)) = e3 at c5 c6
  clear h0 h1 h2 w0 v0 w1
  go_enter Try.func4, Try.ntmps4
  go_wp2_with fail
  have o := Own.last (X := w) (x := Value.int .i64 a0) (y := Value.int .i64 b0) (t := 24)
  have hX := (Ext.refl w).cells #[.int .i64 a0, .int .i64 b0] 24
  clear hE
  refine (shown_calls _ _ (Ext.refl _)).mono ?_
  rintro e w1 ⟨rfl, hx⟩
  replace o := o.ext hx
  replace hX := hX.trans hx
  clear hx
  have k0 := o.c0
  have k1 := o.c1
  go_wp2_with fail
  refine (c1.out _).mono ?_
  rintro e y1 ⟨rfl, hx⟩
  replace o := o.ext hx
  replace hX := hX.trans hx
  clear hx k0 k1 c1
  have k0 := o.c0
  have k1 := o.c1
  go_wp2_with fail
  refine (c2.out _).mono ?_
  rintro e y2 ⟨rfl, hx⟩
  replace o := o.ext hx
  replace hX := hX.trans hx
  clear hx k0 k1 c2
  have k0 := o.c0
  have k1 := o.c1
  go_wp2_with fail
  refine (c3.out _).mono ?_
  rintro e y3 ⟨rfl, hx⟩
  replace o := o.ext hx
  replace hX := hX.trans hx
  clear hx k0 k1 c3
  have k0 := o.c0
  have k1 := o.c1
  go_wp2_with fail
  refine (c4.out _).mono ?_
  rintro e y4 ⟨rfl, hx⟩
  replace o := o.ext hx
  replace hX := hX.trans hx
  clear hx k0 k1 c4
  have k0 := o.c0
  have k1 := o.c1
  go_wp2_with fail
  refine (c5.out _).mono ?_
  rintro e y5 ⟨rfl, hx⟩
  replace o := o.ext hx
  replace hX := hX.trans hx
  clear hx k0 k1 c5
  have k0 := o.c0
  have k1 := o.c1
  go_wp2_with fail
  refine (c6.out _).mono ?_
  rintro e y6 ⟨rfl, hx⟩
  replace o := o.ext hx
  replace hX := hX.trans hx
  clear hx k0 k1 c6
  have k0 := o.c0
  have k1 := o.c1
  go_wp2_with fail
  go_ret
  exact ⟨rfl, hX⟩

set_option maxRecDepth 100000 in
theorem lifted (os : Os) (started : os.Started) (H : Type) (enc : TypeId × Value → H) :
    ReturnsInHanded {} Try.checked os 4 .any (Rows.pairDividesSpec.pre6 enc Try.prog Try.f4 Rows.pairDividesRow.domain false) (Rows.pairDividesSpec.post enc Try.prog Try.f4 false true false false) := by
  refine returnsInHanded_of_change (C := Try.checked) own started (by kernel_rfl) Try.func4
    (ChangeSpec.witness6 (enc := enc) (C := Try.checked) false ⟨#[], #[.agg #[.int .i64 0, .int .i64 0], .int .i64 0], []⟩ 8 (by kernel_rfl) (by kernel_rfl) (by kernel_rfl) (by kernel_rfl)) ?_
  intro W base args ds gs before hval0 hW hcnd _
  have hval : ∀ (j : Nat) t v, Try.f4.params[j]? = some t → args[j]? = some v → Value.okWide Try.prog W .any base t v := hval0
  have hW' := hW
  obtain ⟨p, q, hA0, hV, rfl, hfz, hnd⟩ := hW
  have hA : DataW.TrodAll enc Try.prog W 0 (fun _ => true) true Try.f4.params.toList args.toList ds p := hA0
  rw [Try.params4] at hA hval
  obtain ⟨v0, vs0, d0, ds0, p0, q0, hargs, rfl, rfl, h0, r0⟩ := trodAll_cons hA
  obtain ⟨v1, vs1, d1, ds1, p1, q1, rfl, rfl, rfl, h1, r1⟩ := trodAll_cons r0
  obtain ⟨rfl, rfl, rfl⟩ := trodAll_nil r1
  obtain rfl : args = #[v0, v1] := by cases args; simp_all
  obtain ⟨rfl, rfl⟩ := trodVars_none hV
  obtain ⟨a0, b0, rfl, rfl, rfl, w0, v0'⟩ := open_pair (hval 0 24 v0 rfl rfl) h0
  obtain ⟨a1, rfl, rfl, rfl, w1⟩ := open_int Try.underlying22 (hval 1 22 v1 rfl rfl) h1
  clear hA0 hval0
  simp only [List.append_nil] at hW'
  refine (walk a0 b0 w0 v0' a1 w1 W).mono fun e W' ⟨he, hg⟩ => ?_
  subst he
  exact ⟨_, rfl, post_of_same (pa := []) (pv := []) hW' (fun _ _ _ => (trodAll_cons_mk (shut_bool Try.underlying4 _) trodAll_mk0)) (fun sp _ => (trodAll_cons_mk (shut_pair w0 v0') (trodAll_cons_mk (shut_int Try.underlying22 w1) trodAll_mk0))) (fun _ _ => rfl) rfl
    (hg.frame _) hg.2.1 (ok_one (by kernel_rfl) rfl (okWide_bool_mk Try.underlying4 _))⟩

theorem over : Rows.pairDividesRow.holds Try.pinned (OpenSpec.ofChange Rows.pairDividesSpec) :=
  OpenClaim.holds_of_wide 4 Try.f4 rfl rfl rfl rfl rfl rfl rfl ⟨rfl, rfl, rfl, rfl, rfl⟩ rfl rfl rfl rfl rfl (by kernel_rfl) Try.func4 (by kernel_rfl)
    (of_decide_eq_true (by kernel_rfl)) (by unfold Func.isWrapper; first | (rw [if_pos (by decide +kernel)]; kernel_rfl) | (rw [if_neg (by decide +kernel)]; exact ⟨rfl, rfl⟩))
    (fun os started H enc _ => lifted os started H enc)

/-- THE STATEMENT -/
theorem proved : Rows.PairDividesSaid :=
  over
#print axioms proved
end Go.Proofs.Ytfehpfcpeiopiaa.pairDivides
