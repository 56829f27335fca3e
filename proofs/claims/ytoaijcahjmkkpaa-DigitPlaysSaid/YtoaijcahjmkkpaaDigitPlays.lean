/- DigitPlays: for all arguments given, the call returns true and the arguments read as before. No condition. -/
import Derived.Test.YtoaijcahjmkkpaaRows
import Derived.Test.YtoaijcahjmkkpaaC3Both
import Derived.Test.YtoaijcahjmkkpaaLawKit
import Derived.WalkKit
import Derived.ProofKit
import Derived.OpenShut
namespace Go.Proofs.Ytoaijcahjmkkpaa.digitPlays
open Go.ChangeShapes Go.WideShapes Go.ChangeAt Go.RowKit
set_option linter.unusedVariables false

theorem own : ownKnob Try.prog.godebug = none := by kernel_rfl

set_option maxHeartbeats 8000000 in
set_option maxRecDepth 100000 in
theorem walk (a0 b0 : Int) (w0 : (Lit.int .i64 a0).wf = true) (v0 : (Lit.int .i64 b0).wf = true) (a1 : Int) (w1 : (Lit.int .i64 a1).wf = true) (a2 : Int) (w2 : (Lit.int .u8 a2).wf = true) (a3 : Int) (w3 : (Lit.int .i64 a3).wf = true) (w : World) :
    Calls Try.prog 3 #[.agg #[.int .i64 a0, .int .i64 b0], .int .i64 a1, .int .u8 a2, .int .i64 a3] w fun e w' => e = .returned (.bool true) ∧ Grown w w' := by
  suffices hsuf : Calls Try.prog 3 #[.agg #[.int .i64 a0, .int .i64 b0], .int .i64 a1, .int .u8 a2, .int .i64 a3] w fun e w' => e = .returned (.bool true) ∧ Ext w w' from hsuf.mono fun e w' ⟨he, hx⟩ => ⟨he, hx.grown⟩
  obtain ⟨c, rfl⟩ := u8_of_wf w2
  obtain ⟨x, y, u, s1, s2⟩ := both_step a0 b0 a1 (i64_of_wf w0) (i64_of_wf v0)
  obtain ⟨t, t1, t2⟩ := both_text a0 b0 a1 (i64_of_wf w0) (i64_of_wf v0)
  obtain ⟨g, g1, g2⟩ := both_signed a0 b0 a1 (i64_of_wf w0) (i64_of_wf v0)
  obtain ⟨d, k, d1, d2⟩ := both_value c a1
  obtain ⟨r, r1, r2⟩ := both_char a3
  clear w0 v0 w1 w2 w3
  go_enter Try.func3, Try.ntmps3
  try simp only [List.append]
  go_wp2_with fail
  have o0 := Own.last (X := w) (x := Value.int .i64 a0) (y := Value.int .i64 b0) (t := 24)
  have hX := (Ext.refl w).cells #[.int .i64 a0, .int .i64 b0] 24
  refine (shown3_calls _).mono ?_
  rintro e y0 ⟨rfl, hx⟩
  replace o0 := o0.ext hx
  replace hX := hX.trans hx
  clear hx
  have p0 := o0.c0
  have p1 := o0.c1
  go_wp2_with fail
  refine (s1 _).mono ?_
  rintro e y1 ⟨rfl, hx⟩
  replace o0 := (o0.ext hx).alloc #[.int .i64 x, .int .i64 y] 24
  replace hX := (hX.trans hx).cells #[.int .i64 x, .int .i64 y] 24
  clear hx p0 p1
  have o1 := Own.last (X := y1) (x := Value.int .i64 x) (y := Value.int .i64 y) (t := 24)
  have p0 := o0.c0
  have p1 := o0.c1
  go_wp2_with fail
  refine (s2 _).mono ?_
  rintro e y2 ⟨rfl, hx⟩
  replace o0 := (o0.ext hx).alloc #[.int .i64 x, .int .i64 y] 24
  replace o1 := (o1.ext hx).alloc #[.int .i64 x, .int .i64 y] 24
  replace hX := (hX.trans hx).cells #[.int .i64 x, .int .i64 y] 24
  clear hx p0 p1
  have o2 := Own.last (X := y2) (x := Value.int .i64 x) (y := Value.int .i64 y) (t := 24)
  go_wp2_with fail
  refine (d1 _).mono ?_
  rintro e y3 ⟨rfl, hx⟩
  replace o0 := o0.ext hx
  replace o1 := o1.ext hx
  replace o2 := o2.ext hx
  replace hX := hX.trans hx
  clear hx
  go_wp2_with fail
  refine (d2 _).mono ?_
  rintro e y4 ⟨rfl, hx⟩
  replace o0 := o0.ext hx
  replace o1 := o1.ext hx
  replace o2 := o2.ext hx
  replace hX := hX.trans hx
  clear hx
  have hS : ∀ W W', Ext W W' → (W.cell? ⟨w.heap.size, 0, none⟩ = some (.int .i64 a0) ∧ W.cell? ⟨w.heap.size, 1, none⟩ = some (.int .i64 b0) ∧ W.cell? ⟨y1.heap.size, 0, none⟩ = some (.int .i64 x) ∧ W.cell? ⟨y1.heap.size, 1, none⟩ = some (.int .i64 y) ∧ W.cell? ⟨y2.heap.size, 0, none⟩ = some (.int .i64 x) ∧ W.cell? ⟨y2.heap.size, 1, none⟩ = some (.int .i64 y)) ∧ Ext w W → (W'.cell? ⟨w.heap.size, 0, none⟩ = some (.int .i64 a0) ∧ W'.cell? ⟨w.heap.size, 1, none⟩ = some (.int .i64 b0) ∧ W'.cell? ⟨y1.heap.size, 0, none⟩ = some (.int .i64 x) ∧ W'.cell? ⟨y1.heap.size, 1, none⟩ = some (.int .i64 y) ∧ W'.cell? ⟨y2.heap.size, 0, none⟩ = some (.int .i64 x) ∧ W'.cell? ⟨y2.heap.size, 1, none⟩ = some (.int .i64 y)) ∧ Ext w W' := fun W W' hx h => ⟨⟨ext_keeps hx h.1.1, ext_keeps hx h.1.2.1, ext_keeps hx h.1.2.2.1, ext_keeps hx h.1.2.2.2.1, ext_keeps hx h.1.2.2.2.2.1, ext_keeps hx h.1.2.2.2.2.2⟩, h.2.trans hx⟩
  have kt1 := Lib.hid (show ∀ W, (W.cell? ⟨w.heap.size, 0, none⟩ = some (.int .i64 a0) ∧ W.cell? ⟨w.heap.size, 1, none⟩ = some (.int .i64 b0) ∧ W.cell? ⟨y1.heap.size, 0, none⟩ = some (.int .i64 x) ∧ W.cell? ⟨y1.heap.size, 1, none⟩ = some (.int .i64 y) ∧ W.cell? ⟨y2.heap.size, 0, none⟩ = some (.int .i64 x) ∧ W.cell? ⟨y2.heap.size, 1, none⟩ = some (.int .i64 y)) ∧ Ext w W → Calls Try.prog 15 #[.agg #[.int .i64 a0, .int .i64 b0], .int .i64 a1] W (fun e w' => e = .returned (.string t) ∧ ((w'.cell? ⟨w.heap.size, 0, none⟩ = some (.int .i64 a0) ∧ w'.cell? ⟨w.heap.size, 1, none⟩ = some (.int .i64 b0) ∧ w'.cell? ⟨y1.heap.size, 0, none⟩ = some (.int .i64 x) ∧ w'.cell? ⟨y1.heap.size, 1, none⟩ = some (.int .i64 y) ∧ w'.cell? ⟨y2.heap.size, 0, none⟩ = some (.int .i64 x) ∧ w'.cell? ⟨y2.heap.size, 1, none⟩ = some (.int .i64 y)) ∧ Ext w w')) from fun W h => Ret.held t1 _ hS W h)
  have kt2 := Lib.hid (show ∀ W, (W.cell? ⟨w.heap.size, 0, none⟩ = some (.int .i64 a0) ∧ W.cell? ⟨w.heap.size, 1, none⟩ = some (.int .i64 b0) ∧ W.cell? ⟨y1.heap.size, 0, none⟩ = some (.int .i64 x) ∧ W.cell? ⟨y1.heap.size, 1, none⟩ = some (.int .i64 y) ∧ W.cell? ⟨y2.heap.size, 0, none⟩ = some (.int .i64 x) ∧ W.cell? ⟨y2.heap.size, 1, none⟩ = some (.int .i64 y)) ∧ Ext w W → Calls Try.prog 16 #[.agg #[.int .i64 a0, .int .i64 b0], .int .i64 a1] W (fun e w' => e = .returned (.string t) ∧ ((w'.cell? ⟨w.heap.size, 0, none⟩ = some (.int .i64 a0) ∧ w'.cell? ⟨w.heap.size, 1, none⟩ = some (.int .i64 b0) ∧ w'.cell? ⟨y1.heap.size, 0, none⟩ = some (.int .i64 x) ∧ w'.cell? ⟨y1.heap.size, 1, none⟩ = some (.int .i64 y) ∧ w'.cell? ⟨y2.heap.size, 0, none⟩ = some (.int .i64 x) ∧ w'.cell? ⟨y2.heap.size, 1, none⟩ = some (.int .i64 y)) ∧ Ext w w')) from fun W h => Ret.held t2 _ hS W h)
  have kg1 := Lib.hid (show ∀ W, (W.cell? ⟨w.heap.size, 0, none⟩ = some (.int .i64 a0) ∧ W.cell? ⟨w.heap.size, 1, none⟩ = some (.int .i64 b0) ∧ W.cell? ⟨y1.heap.size, 0, none⟩ = some (.int .i64 x) ∧ W.cell? ⟨y1.heap.size, 1, none⟩ = some (.int .i64 y) ∧ W.cell? ⟨y2.heap.size, 0, none⟩ = some (.int .i64 x) ∧ W.cell? ⟨y2.heap.size, 1, none⟩ = some (.int .i64 y)) ∧ Ext w W → Calls Try.prog 17 #[.agg #[.int .i64 a0, .int .i64 b0], .int .i64 a1] W (fun e w' => e = .returned (.string g) ∧ ((w'.cell? ⟨w.heap.size, 0, none⟩ = some (.int .i64 a0) ∧ w'.cell? ⟨w.heap.size, 1, none⟩ = some (.int .i64 b0) ∧ w'.cell? ⟨y1.heap.size, 0, none⟩ = some (.int .i64 x) ∧ w'.cell? ⟨y1.heap.size, 1, none⟩ = some (.int .i64 y) ∧ w'.cell? ⟨y2.heap.size, 0, none⟩ = some (.int .i64 x) ∧ w'.cell? ⟨y2.heap.size, 1, none⟩ = some (.int .i64 y)) ∧ Ext w w')) from fun W h => Ret.held g1 _ hS W h)
  have kg2 := Lib.hid (show ∀ W, (W.cell? ⟨w.heap.size, 0, none⟩ = some (.int .i64 a0) ∧ W.cell? ⟨w.heap.size, 1, none⟩ = some (.int .i64 b0) ∧ W.cell? ⟨y1.heap.size, 0, none⟩ = some (.int .i64 x) ∧ W.cell? ⟨y1.heap.size, 1, none⟩ = some (.int .i64 y) ∧ W.cell? ⟨y2.heap.size, 0, none⟩ = some (.int .i64 x) ∧ W.cell? ⟨y2.heap.size, 1, none⟩ = some (.int .i64 y)) ∧ Ext w W → Calls Try.prog 18 #[.agg #[.int .i64 a0, .int .i64 b0], .int .i64 a1] W (fun e w' => e = .returned (.string g) ∧ ((w'.cell? ⟨w.heap.size, 0, none⟩ = some (.int .i64 a0) ∧ w'.cell? ⟨w.heap.size, 1, none⟩ = some (.int .i64 b0) ∧ w'.cell? ⟨y1.heap.size, 0, none⟩ = some (.int .i64 x) ∧ w'.cell? ⟨y1.heap.size, 1, none⟩ = some (.int .i64 y) ∧ w'.cell? ⟨y2.heap.size, 0, none⟩ = some (.int .i64 x) ∧ w'.cell? ⟨y2.heap.size, 1, none⟩ = some (.int .i64 y)) ∧ Ext w w')) from fun W h => Ret.held g2 _ hS W h)
  have kc1 := Lib.hid (show ∀ W, (W.cell? ⟨w.heap.size, 0, none⟩ = some (.int .i64 a0) ∧ W.cell? ⟨w.heap.size, 1, none⟩ = some (.int .i64 b0) ∧ W.cell? ⟨y1.heap.size, 0, none⟩ = some (.int .i64 x) ∧ W.cell? ⟨y1.heap.size, 1, none⟩ = some (.int .i64 y) ∧ W.cell? ⟨y2.heap.size, 0, none⟩ = some (.int .i64 x) ∧ W.cell? ⟨y2.heap.size, 1, none⟩ = some (.int .i64 y)) ∧ Ext w W → Calls Try.prog 19 #[.int .i64 a3] W (fun e w' => e = .returned (.int .u8 r) ∧ ((w'.cell? ⟨w.heap.size, 0, none⟩ = some (.int .i64 a0) ∧ w'.cell? ⟨w.heap.size, 1, none⟩ = some (.int .i64 b0) ∧ w'.cell? ⟨y1.heap.size, 0, none⟩ = some (.int .i64 x) ∧ w'.cell? ⟨y1.heap.size, 1, none⟩ = some (.int .i64 y) ∧ w'.cell? ⟨y2.heap.size, 0, none⟩ = some (.int .i64 x) ∧ w'.cell? ⟨y2.heap.size, 1, none⟩ = some (.int .i64 y)) ∧ Ext w w')) from fun W h => Ret.held r1 _ hS W h)
  have kc2 := Lib.hid (show ∀ W, (W.cell? ⟨w.heap.size, 0, none⟩ = some (.int .i64 a0) ∧ W.cell? ⟨w.heap.size, 1, none⟩ = some (.int .i64 b0) ∧ W.cell? ⟨y1.heap.size, 0, none⟩ = some (.int .i64 x) ∧ W.cell? ⟨y1.heap.size, 1, none⟩ = some (.int .i64 y) ∧ W.cell? ⟨y2.heap.size, 0, none⟩ = some (.int .i64 x) ∧ W.cell? ⟨y2.heap.size, 1, none⟩ = some (.int .i64 y)) ∧ Ext w W → Calls Try.prog 20 #[.int .i64 a3] W (fun e w' => e = .returned (.int .u8 r) ∧ ((w'.cell? ⟨w.heap.size, 0, none⟩ = some (.int .i64 a0) ∧ w'.cell? ⟨w.heap.size, 1, none⟩ = some (.int .i64 b0) ∧ w'.cell? ⟨y1.heap.size, 0, none⟩ = some (.int .i64 x) ∧ w'.cell? ⟨y1.heap.size, 1, none⟩ = some (.int .i64 y) ∧ w'.cell? ⟨y2.heap.size, 0, none⟩ = some (.int .i64 x) ∧ w'.cell? ⟨y2.heap.size, 1, none⟩ = some (.int .i64 y)) ∧ Ext w w')) from fun W h => Ret.held r2 _ hS W h)
  clear hS
  go_wp2_with fail
  go_region_held3 (fun W => (W.cell? ⟨w.heap.size, 0, none⟩ = some (.int .i64 a0) ∧ W.cell? ⟨w.heap.size, 1, none⟩ = some (.int .i64 b0) ∧ W.cell? ⟨y1.heap.size, 0, none⟩ = some (.int .i64 x) ∧ W.cell? ⟨y1.heap.size, 1, none⟩ = some (.int .i64 y) ∧ W.cell? ⟨y2.heap.size, 0, none⟩ = some (.int .i64 x) ∧ W.cell? ⟨y2.heap.size, 1, none⟩ = some (.int .i64 y)) ∧ Ext w W) (first | exact ⟨⟨o0.c0, o0.c1, o1.c0, o1.c1, o2.c0, o2.c1⟩, hX⟩ | exact ⟨⟨o0.c0, o0.c1, o1.c0, o1.c1, o2.c0, o2.c1⟩, hX.drew⟩ | exact hx | assumption)
    (first | (go_at_call 15; refine (kt1.out _ ?_).mono ?_; assumption; rintro e w' ⟨rfl, hx⟩) | (go_at_call 16; refine (kt2.out _ ?_).mono ?_; assumption; rintro e w' ⟨rfl, hx⟩) | (go_at_call 17; refine (kg1.out _ ?_).mono ?_; assumption; rintro e w' ⟨rfl, hx⟩) | (go_at_call 18; refine (kg2.out _ ?_).mono ?_; assumption; rintro e w' ⟨rfl, hx⟩) | (go_at_call 19; refine (kc1.out _ ?_).mono ?_; assumption; rintro e w' ⟨rfl, hx⟩) | (go_at_call 20; refine (kc2.out _ ?_).mono ?_; assumption; rintro e w' ⟨rfl, hx⟩))
  go_wp2
  go_ret
  exact ⟨rfl, hx.2⟩

set_option maxRecDepth 100000 in
theorem lifted (os : Os) (started : os.Started) (H : Type) (enc : TypeId × Value → H) :
    ReturnsInHanded {} Try.checked os 3 .any (Rows.digitPlaysSpec.pre6 enc Try.prog Try.f3 Rows.digitPlaysRow.domain false) (Rows.digitPlaysSpec.post enc Try.prog Try.f3 false true false false) := by
  refine returnsInHanded_of_change (C := Try.checked) own started (by kernel_rfl) Try.func3
    (ChangeSpec.witness6 (enc := enc) (C := Try.checked) false ⟨#[], #[.agg #[.int .i64 0, .int .i64 0], .int .i64 0, .int .u8 0, .int .i64 0], []⟩ 8 (by kernel_rfl) (by kernel_rfl) (by kernel_rfl) (by kernel_rfl)) ?_
  intro W base args ds gs before hval0 hW hcnd _
  have hval : ∀ (j : Nat) t v, Try.f3.params[j]? = some t → args[j]? = some v → Value.okWide Try.prog W .any base t v := hval0
  have hW' := hW
  obtain ⟨p, q, hA0, hV, rfl, hfz, hnd⟩ := hW
  have hA : DataW.TrodAll enc Try.prog W 0 (fun _ => true) true Try.f3.params.toList args.toList ds p := hA0
  rw [Try.params3] at hA hval
  obtain ⟨v0, vs0, d0, ds0, p0, q0, hargs, rfl, rfl, h0, r0⟩ := trodAll_cons hA
  obtain ⟨v1, vs1, d1, ds1, p1, q1, rfl, rfl, rfl, h1, r1⟩ := trodAll_cons r0
  obtain ⟨v2, vs2, d2, ds2, p2, q2, rfl, rfl, rfl, h2, r2⟩ := trodAll_cons r1
  obtain ⟨v3, vs3, d3, ds3, p3, q3, rfl, rfl, rfl, h3, r3⟩ := trodAll_cons r2
  obtain ⟨rfl, rfl, rfl⟩ := trodAll_nil r3
  obtain rfl : args = #[v0, v1, v2, v3] := by cases args; simp_all
  obtain ⟨rfl, rfl⟩ := trodVars_none hV
  obtain ⟨a0, b0, rfl, rfl, rfl, w0, v0'⟩ := open_pair (hval 0 24 v0 rfl rfl) h0
  obtain ⟨a1, rfl, rfl, rfl, w1⟩ := open_int Try.underlying3 (hval 1 3 v1 rfl rfl) h1
  obtain ⟨a2, rfl, rfl, rfl, w2⟩ := open_int Try.underlying5 (hval 2 5 v2 rfl rfl) h2
  obtain ⟨a3, rfl, rfl, rfl, w3⟩ := open_int Try.underlying3 (hval 3 3 v3 rfl rfl) h3
  clear hA0 hval0
  simp only [List.append_nil] at hW'
  refine (walk a0 b0 w0 v0' a1 w1 a2 w2 a3 w3 W).mono fun e W' ⟨he, hg⟩ => ?_
  subst he
  exact ⟨_, rfl, post_of_same (pa := []) (pv := []) hW' (fun _ _ _ => (trodAll_cons_mk (shut_bool Try.underlying4 _) trodAll_mk0)) (fun sp _ => (trodAll_cons_mk (shut_pair w0 v0') (trodAll_cons_mk (shut_int Try.underlying3 w1) (trodAll_cons_mk (shut_int Try.underlying5 w2) (trodAll_cons_mk (shut_int Try.underlying3 w3) trodAll_mk0))))) (fun _ _ => rfl) rfl
    (hg.frame _) hg.2.1 (ok_one (by kernel_rfl) rfl (okWide_bool_mk Try.underlying4 _))⟩

theorem over : Rows.digitPlaysRow.holds Try.pinned (OpenSpec.ofChange Rows.digitPlaysSpec) :=
  OpenClaim.holds_of_wide 3 Try.f3 rfl rfl rfl rfl rfl rfl rfl ⟨rfl, rfl, rfl, rfl, rfl⟩ rfl rfl rfl rfl rfl (by kernel_rfl) Try.func3 (by kernel_rfl)
    (of_decide_eq_true (by kernel_rfl)) (by unfold Func.isWrapper; first | (rw [if_pos (by decide +kernel)]; kernel_rfl) | (rw [if_neg (by decide +kernel)]; exact ⟨rfl, rfl⟩))
    (fun os started H enc _ => lifted os started H enc)

/-- THE STATEMENT -/
theorem proved : Rows.DigitPlaysSaid :=
  over
#print axioms proved
end Go.Proofs.Ytoaijcahjmkkpaa.digitPlays
