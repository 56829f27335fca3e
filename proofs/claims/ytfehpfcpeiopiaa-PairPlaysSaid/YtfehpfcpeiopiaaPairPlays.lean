/- PairPlays: for all arguments given, the call returns true and the arguments read as before. No condition. -/
import Derived.Test.YtfehpfcpeiopiaaRows
import Derived.Test.YtfehpfcpeiopiaaC2Laws
import Derived.WalkKit
import Derived.ProofKit
import Derived.OpenShut
namespace Go.Proofs.Ytfehpfcpeiopiaa.pairPlays
open Go.ChangeShapes Go.WideShapes Go.ChangeAt Go.RowKit
set_option linter.unusedVariables false

theorem own : ownKnob Try.prog.godebug = none := by kernel_rfl

set_option maxHeartbeats 8000000 in
set_option maxRecDepth 100000 in
theorem walk (a0 b0 : Int) (w0 : (Lit.int .i64 a0).wf = true) (v0 : (Lit.int .i64 b0).wf = true) (a1 b1 : Int) (w1 : (Lit.int .i64 a1).wf = true) (v1 : (Lit.int .i64 b1).wf = true) (a2 : Int) (w2 : (Lit.int .i64 a2).wf = true) (w : World) :
    Calls Try.prog 3 #[.agg #[.int .i64 a0, .int .i64 b0], .agg #[.int .i64 a1, .int .i64 b1], .int .i64 a2] w fun e w' => e = .returned (.bool true) ∧ Grown w w' := by
  suffices hsuf : Calls Try.prog 3 #[.agg #[.int .i64 a0, .int .i64 b0], .agg #[.int .i64 a1, .int .i64 b1], .int .i64 a2] w fun e w' => e = .returned (.bool true) ∧ Ext w w' from hsuf.mono fun e w' ⟨he, hx⟩ => ⟨he, hx.grown⟩
  have h0 := i64_of_wf w0
  have k0 := i64_of_wf v0
  have h1 := i64_of_wf w1
  have k1 := i64_of_wf v1
  have h2 := i64_of_wf w2
  have cAdd := Lib.hid (fun W => add_calls W a0 b0 a1 b1 h0 k0 h1 k1 W (Ext.refl W))
  have rAdd := Lib.hid (fun W => radd_calls W a0 b0 a1 b1 h0 k0 h1 k1 W (Ext.refl W))
  have cNeg := Lib.hid (fun W => neg_calls W a0 b0 h0 k0 W (Ext.refl W))
  have rNeg := Lib.hid (fun W => rneg_calls W a0 b0 h0 k0 W (Ext.refl W))
  have cTwice := Lib.hid (fun W => twice_calls W a0 b0 h0 k0 W (Ext.refl W))
  have rTwice := Lib.hid (fun W => rtwice_calls W a0 b0 h0 k0 W (Ext.refl W))
  have cHalf := Lib.hid (fun W => half_calls W a0 b0 h0 k0 W (Ext.refl W))
  have rHalf := Lib.hid (fun W => rhalf_calls W a0 b0 h0 k0 W (Ext.refl W))
  have cOf := Lib.hid (fun W => of_calls W a2 h2 W (Ext.refl W))
  have rOf := Lib.hid (fun W => rof_calls W a2 h2 W (Ext.refl W))
  have cLess := Lib.hid (fun W => less_calls W a0 b0 a1 b1 h0 k0 h1 k1 W (Ext.refl W))
  have rLess := Lib.hid (fun W => rless_calls W a0 b0 a1 b1 h0 k0 h1 k1 W (Ext.refl W))
  have cULess := Lib.hid (fun W => uless_calls W a0 b0 a1 b1 h0 k0 h1 k1 W (Ext.refl W))
  have rULess := Lib.hid (fun W => ruless_calls W a0 b0 a1 b1 h0 k0 h1 k1 W (Ext.refl W))
  have cMul := Lib.hid (fun W => mul_calls W a2 a0 h2 h0 W (Ext.refl W))
  have rMul := Lib.hid (fun W => rmul_calls W a2 a0 h2 h0 W (Ext.refl W))
  have cUMul := Lib.hid (fun W => umul_calls W a2 a0 h2 h0 W (Ext.refl W))
  have rUMul := Lib.hid (fun W => rumul_calls W a2 a0 h2 h0 W (Ext.refl W))
  generalize lo (V a0 b0 + V a1 b1) = xAdd at cAdd rAdd
  generalize hi (V a0 b0 + V a1 b1) = yAdd at cAdd rAdd
  generalize lo (-V a0 b0) = xNeg at cNeg rNeg
  generalize hi (-V a0 b0) = yNeg at cNeg rNeg
  generalize lo (2 * V a0 b0) = xTwice at cTwice rTwice
  generalize hi (2 * V a0 b0) = yTwice at cTwice rTwice
  generalize lo (V a0 b0 / 2) = xHalf at cHalf rHalf
  generalize hi (V a0 b0 / 2) = yHalf at cHalf rHalf
  generalize lo (a2) = xOf at cOf rOf
  generalize hi (a2) = yOf at cOf rOf
  generalize lo (a2 * a0) = xMul at cMul rMul
  generalize hi (a2 * a0) = yMul at cMul rMul
  generalize lo (U a2 * U a0) = xUMul at cUMul rUMul
  generalize hi (U a2 * U a0) = yUMul at cUMul rUMul
  generalize decide (V a0 b0 < V a1 b1) = l1 at cLess rLess
  generalize decide (W a0 b0 < W a1 b1) = l2 at cULess rULess
  clear h0 k0 h1 k1 h2 w0 v0 w1 v1 w2
  go_enter Try.func3, Try.ntmps3
  go_wp2_with fail
  obtain ⟨o0, o1⟩ := own2 w (.int .i64 a0) (.int .i64 b0) (.int .i64 a1) (.int .i64 b1)
  have hX := ((Ext.refl w).cells #[.int .i64 a0, .int .i64 b0] 24).cells #[.int .i64 a1, .int .i64 b1] 24
  refine (shown_calls _ _ (Ext.refl _)).mono ?_
  rintro e w1 ⟨rfl, hx⟩
  replace o0 := o0.ext hx
  replace o1 := o1.ext hx
  replace hX := hX.trans hx
  clear hx
  go_wp2_with fail
  go_region_held3 (fun W => (W.cell? ⟨w.heap.size, 0, none⟩ = some (.int .i64 a0) ∧ W.cell? ⟨w.heap.size, 1, none⟩ = some (.int .i64 b0) ∧ W.cell? ⟨w.heap.size + 1, 0, none⟩ = some (.int .i64 a1) ∧ W.cell? ⟨w.heap.size + 1, 1, none⟩ = some (.int .i64 b1)) ∧ Ext w W) (first | exact ⟨⟨o0.c0, o0.c1, o1.c0, o1.c1⟩, hX⟩ | exact ⟨⟨o0.c0, o0.c1, o1.c0, o1.c1⟩, hX.drew⟩ | exact hx | assumption)
    (first | (go_at_call 11; refine (held4 (w0 := w) (p := ⟨w.heap.size, 0, none⟩) (q := ⟨w.heap.size, 1, none⟩) (r := ⟨w.heap.size + 1, 0, none⟩) (s := ⟨w.heap.size + 1, 1, none⟩) (x := .int .i64 a0) (y := .int .i64 b0) (z := .int .i64 a1) (t := .int .i64 b1) cAdd.out _ ?_).mono ?_; assumption; rintro e w' ⟨rfl, hx⟩) | (go_at_call 12; refine (held4 (w0 := w) (p := ⟨w.heap.size, 0, none⟩) (q := ⟨w.heap.size, 1, none⟩) (r := ⟨w.heap.size + 1, 0, none⟩) (s := ⟨w.heap.size + 1, 1, none⟩) (x := .int .i64 a0) (y := .int .i64 b0) (z := .int .i64 a1) (t := .int .i64 b1) rAdd.out _ ?_).mono ?_; assumption; rintro e w' ⟨rfl, hx⟩) | (go_at_call 13; refine (held4 (w0 := w) (p := ⟨w.heap.size, 0, none⟩) (q := ⟨w.heap.size, 1, none⟩) (r := ⟨w.heap.size + 1, 0, none⟩) (s := ⟨w.heap.size + 1, 1, none⟩) (x := .int .i64 a0) (y := .int .i64 b0) (z := .int .i64 a1) (t := .int .i64 b1) cNeg.out _ ?_).mono ?_; assumption; rintro e w' ⟨rfl, hx⟩) | (go_at_call 14; refine (held4 (w0 := w) (p := ⟨w.heap.size, 0, none⟩) (q := ⟨w.heap.size, 1, none⟩) (r := ⟨w.heap.size + 1, 0, none⟩) (s := ⟨w.heap.size + 1, 1, none⟩) (x := .int .i64 a0) (y := .int .i64 b0) (z := .int .i64 a1) (t := .int .i64 b1) rNeg.out _ ?_).mono ?_; assumption; rintro e w' ⟨rfl, hx⟩) | (go_at_call 15; refine (held4 (w0 := w) (p := ⟨w.heap.size, 0, none⟩) (q := ⟨w.heap.size, 1, none⟩) (r := ⟨w.heap.size + 1, 0, none⟩) (s := ⟨w.heap.size + 1, 1, none⟩) (x := .int .i64 a0) (y := .int .i64 b0) (z := .int .i64 a1) (t := .int .i64 b1) cTwice.out _ ?_).mono ?_; assumption; rintro e w' ⟨rfl, hx⟩) | (go_at_call 16; refine (held4 (w0 := w) (p := ⟨w.heap.size, 0, none⟩) (q := ⟨w.heap.size, 1, none⟩) (r := ⟨w.heap.size + 1, 0, none⟩) (s := ⟨w.heap.size + 1, 1, none⟩) (x := .int .i64 a0) (y := .int .i64 b0) (z := .int .i64 a1) (t := .int .i64 b1) rTwice.out _ ?_).mono ?_; assumption; rintro e w' ⟨rfl, hx⟩) | (go_at_call 17; refine (held4 (w0 := w) (p := ⟨w.heap.size, 0, none⟩) (q := ⟨w.heap.size, 1, none⟩) (r := ⟨w.heap.size + 1, 0, none⟩) (s := ⟨w.heap.size + 1, 1, none⟩) (x := .int .i64 a0) (y := .int .i64 b0) (z := .int .i64 a1) (t := .int .i64 b1) cHalf.out _ ?_).mono ?_; assumption; rintro e w' ⟨rfl, hx⟩) | (go_at_call 18; refine (held4 (w0 := w) (p := ⟨w.heap.size, 0, none⟩) (q := ⟨w.heap.size, 1, none⟩) (r := ⟨w.heap.size + 1, 0, none⟩) (s := ⟨w.heap.size + 1, 1, none⟩) (x := .int .i64 a0) (y := .int .i64 b0) (z := .int .i64 a1) (t := .int .i64 b1) rHalf.out _ ?_).mono ?_; assumption; rintro e w' ⟨rfl, hx⟩) | (go_at_call 19; refine (held4 (w0 := w) (p := ⟨w.heap.size, 0, none⟩) (q := ⟨w.heap.size, 1, none⟩) (r := ⟨w.heap.size + 1, 0, none⟩) (s := ⟨w.heap.size + 1, 1, none⟩) (x := .int .i64 a0) (y := .int .i64 b0) (z := .int .i64 a1) (t := .int .i64 b1) cOf.out _ ?_).mono ?_; assumption; rintro e w' ⟨rfl, hx⟩) | (go_at_call 20; refine (held4 (w0 := w) (p := ⟨w.heap.size, 0, none⟩) (q := ⟨w.heap.size, 1, none⟩) (r := ⟨w.heap.size + 1, 0, none⟩) (s := ⟨w.heap.size + 1, 1, none⟩) (x := .int .i64 a0) (y := .int .i64 b0) (z := .int .i64 a1) (t := .int .i64 b1) rOf.out _ ?_).mono ?_; assumption; rintro e w' ⟨rfl, hx⟩))
  clear o0 o1 hX
  have hy := hx
  clear hx
  go_wp2_with fail
  go_region_held3 (fun W => (W.cell? ⟨w.heap.size, 0, none⟩ = some (.int .i64 a0) ∧ W.cell? ⟨w.heap.size, 1, none⟩ = some (.int .i64 b0) ∧ W.cell? ⟨w.heap.size + 1, 0, none⟩ = some (.int .i64 a1) ∧ W.cell? ⟨w.heap.size + 1, 1, none⟩ = some (.int .i64 b1)) ∧ Ext w W) (first | exact hy | exact ⟨hy.1, hy.2.drew⟩ | exact hx | assumption)
    (first | (go_at_call 21; refine (held4 (w0 := w) (p := ⟨w.heap.size, 0, none⟩) (q := ⟨w.heap.size, 1, none⟩) (r := ⟨w.heap.size + 1, 0, none⟩) (s := ⟨w.heap.size + 1, 1, none⟩) (x := .int .i64 a0) (y := .int .i64 b0) (z := .int .i64 a1) (t := .int .i64 b1) cLess.out _ ?_).mono ?_; assumption; rintro e w' ⟨rfl, hx⟩) | (go_at_call 22; refine (held4 (w0 := w) (p := ⟨w.heap.size, 0, none⟩) (q := ⟨w.heap.size, 1, none⟩) (r := ⟨w.heap.size + 1, 0, none⟩) (s := ⟨w.heap.size + 1, 1, none⟩) (x := .int .i64 a0) (y := .int .i64 b0) (z := .int .i64 a1) (t := .int .i64 b1) rLess.out _ ?_).mono ?_; assumption; rintro e w' ⟨rfl, hx⟩) | (go_at_call 23; refine (held4 (w0 := w) (p := ⟨w.heap.size, 0, none⟩) (q := ⟨w.heap.size, 1, none⟩) (r := ⟨w.heap.size + 1, 0, none⟩) (s := ⟨w.heap.size + 1, 1, none⟩) (x := .int .i64 a0) (y := .int .i64 b0) (z := .int .i64 a1) (t := .int .i64 b1) cULess.out _ ?_).mono ?_; assumption; rintro e w' ⟨rfl, hx⟩) | (go_at_call 24; refine (held4 (w0 := w) (p := ⟨w.heap.size, 0, none⟩) (q := ⟨w.heap.size, 1, none⟩) (r := ⟨w.heap.size + 1, 0, none⟩) (s := ⟨w.heap.size + 1, 1, none⟩) (x := .int .i64 a0) (y := .int .i64 b0) (z := .int .i64 a1) (t := .int .i64 b1) rULess.out _ ?_).mono ?_; assumption; rintro e w' ⟨rfl, hx⟩) | (go_at_call 25; refine (held4 (w0 := w) (p := ⟨w.heap.size, 0, none⟩) (q := ⟨w.heap.size, 1, none⟩) (r := ⟨w.heap.size + 1, 0, none⟩) (s := ⟨w.heap.size + 1, 1, none⟩) (x := .int .i64 a0) (y := .int .i64 b0) (z := .int .i64 a1) (t := .int .i64 b1) cMul.out _ ?_).mono ?_; assumption; rintro e w' ⟨rfl, hx⟩) | (go_at_call 26; refine (held4 (w0 := w) (p := ⟨w.heap.size, 0, none⟩) (q := ⟨w.heap.size, 1, none⟩) (r := ⟨w.heap.size + 1, 0, none⟩) (s := ⟨w.heap.size + 1, 1, none⟩) (x := .int .i64 a0) (y := .int .i64 b0) (z := .int .i64 a1) (t := .int .i64 b1) rMul.out _ ?_).mono ?_; assumption; rintro e w' ⟨rfl, hx⟩) | (go_at_call 27; refine (held4 (w0 := w) (p := ⟨w.heap.size, 0, none⟩) (q := ⟨w.heap.size, 1, none⟩) (r := ⟨w.heap.size + 1, 0, none⟩) (s := ⟨w.heap.size + 1, 1, none⟩) (x := .int .i64 a0) (y := .int .i64 b0) (z := .int .i64 a1) (t := .int .i64 b1) cUMul.out _ ?_).mono ?_; assumption; rintro e w' ⟨rfl, hx⟩) | (go_at_call 28; refine (held4 (w0 := w) (p := ⟨w.heap.size, 0, none⟩) (q := ⟨w.heap.size, 1, none⟩) (r := ⟨w.heap.size + 1, 0, none⟩) (s := ⟨w.heap.size + 1, 1, none⟩) (x := .int .i64 a0) (y := .int .i64 b0) (z := .int .i64 a1) (t := .int .i64 b1) rUMul.out _ ?_).mono ?_; assumption; rintro e w' ⟨rfl, hx⟩))
  go_wp2
  go_ret
  exact ⟨rfl, hx.2⟩

set_option maxRecDepth 100000 in
theorem lifted (os : Os) (started : os.Started) (H : Type) (enc : TypeId × Value → H) :
    ReturnsInHanded {} Try.checked os 3 .any (Rows.pairPlaysSpec.pre6 enc Try.prog Try.f3 Rows.pairPlaysRow.domain false) (Rows.pairPlaysSpec.post enc Try.prog Try.f3 false true false false) := by
  refine returnsInHanded_of_change (C := Try.checked) own started (by kernel_rfl) Try.func3
    (ChangeSpec.witness6 (enc := enc) (C := Try.checked) false ⟨#[], #[.agg #[.int .i64 0, .int .i64 0], .agg #[.int .i64 0, .int .i64 0], .int .i64 0], []⟩ 8 (by kernel_rfl) (by kernel_rfl) (by kernel_rfl) (by kernel_rfl)) ?_
  intro W base args ds gs before hval0 hW hcnd _
  have hval : ∀ (j : Nat) t v, Try.f3.params[j]? = some t → args[j]? = some v → Value.okWide Try.prog W .any base t v := hval0
  have hW' := hW
  obtain ⟨p, q, hA0, hV, rfl, hfz, hnd⟩ := hW
  have hA : DataW.TrodAll enc Try.prog W 0 (fun _ => true) true Try.f3.params.toList args.toList ds p := hA0
  rw [Try.params3] at hA hval
  obtain ⟨v0, vs0, d0, ds0, p0, q0, hargs, rfl, rfl, h0, r0⟩ := trodAll_cons hA
  obtain ⟨v1, vs1, d1, ds1, p1, q1, rfl, rfl, rfl, h1, r1⟩ := trodAll_cons r0
  obtain ⟨v2, vs2, d2, ds2, p2, q2, rfl, rfl, rfl, h2, r2⟩ := trodAll_cons r1
  obtain ⟨rfl, rfl, rfl⟩ := trodAll_nil r2
  obtain rfl : args = #[v0, v1, v2] := by cases args; simp_all
  obtain ⟨rfl, rfl⟩ := trodVars_none hV
  obtain ⟨a0, b0, rfl, rfl, rfl, w0, v0'⟩ := open_pair (hval 0 24 v0 rfl rfl) h0
  obtain ⟨a1, b1, rfl, rfl, rfl, w1, v1'⟩ := open_pair (hval 1 24 v1 rfl rfl) h1
  obtain ⟨a2, rfl, rfl, rfl, w2⟩ := open_int Try.underlying22 (hval 2 22 v2 rfl rfl) h2
  clear hA0 hval0
  simp only [List.append_nil] at hW'
  refine (walk a0 b0 w0 v0' a1 b1 w1 v1' a2 w2 W).mono fun e W' ⟨he, hg⟩ => ?_
  subst he
  exact ⟨_, rfl, post_of_same (pa := []) (pv := []) hW' (fun _ _ _ => (trodAll_cons_mk (shut_bool Try.underlying4 _) trodAll_mk0)) (fun sp _ => (trodAll_cons_mk (shut_pair w0 v0') (trodAll_cons_mk (shut_pair w1 v1') (trodAll_cons_mk (shut_int Try.underlying22 w2) trodAll_mk0)))) (fun _ _ => rfl) rfl
    (hg.frame _) hg.2.1 (ok_one (by kernel_rfl) rfl (okWide_bool_mk Try.underlying4 _))⟩

theorem over : Rows.pairPlaysRow.holds Try.pinned (OpenSpec.ofChange Rows.pairPlaysSpec) :=
  OpenClaim.holds_of_wide 3 Try.f3 rfl rfl rfl rfl rfl rfl rfl ⟨rfl, rfl, rfl, rfl, rfl⟩ rfl rfl rfl rfl rfl (by kernel_rfl) Try.func3 (by kernel_rfl)
    (of_decide_eq_true (by kernel_rfl)) (by unfold Func.isWrapper; first | (rw [if_pos (by decide +kernel)]; kernel_rfl) | (rw [if_neg (by decide +kernel)]; exact ⟨rfl, rfl⟩))
    (fun os started H enc _ => lifted os started H enc)

/-- THE STATEMENT -/
theorem proved : Rows.PairPlaysSaid :=
  over
#print axioms proved
end Go.Proofs.Ytfehpfcpeiopiaa.pairPlays
