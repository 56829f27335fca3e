/- DigitReads: for all arguments given, the call returns true and the arguments read as before. No condition. -/
import Derived.Test.YtoaijcahjmkkpaaRows
import Derived.Test.YtoaijcahjmkkpaaC3Both
import Derived.Test.YtoaijcahjmkkpaaLawKit
import Derived.Deep.DeepCutAuto
import Derived.Deep.RegionWith
import Derived.WalkKit
import Derived.ProofKit
import Derived.OpenShut
import Derived.ChangeMaps5
namespace Go.Proofs.Ytoaijcahjmkkpaa.digitReads
open Go.ChangeShapes Go.WideShapes Go.ChangeAt Go.RowKit Go.ChangeMaps
set_option linter.unusedVariables false

theorem own : ownKnob Try.prog.godebug = none := by kernel_rfl

def Got (w : World) (a b x y n : Int) (u v : Value) (wx : World) : Prop := ∃ k : Nat, u = .pointer (some ⟨k, 0, none⟩) ∧ v = .int .i64 n ∧ Own wx k (.int .i64 x) (.int .i64 y) ∧ Own wx w.heap.size (.int .i64 a) (.int .i64 b) ∧ Ext w wx ∧ w.heap.size < k
def Got2 (w : World) (k1 : Nat) (a b x y n : Int) (u v : Value) (wx : World) : Prop := ∃ k : Nat, u = .pointer (some ⟨k, 0, none⟩) ∧ v = .int .i64 n ∧ Own wx k (.int .i64 x) (.int .i64 y) ∧ Own wx k1 (.int .i64 x) (.int .i64 y) ∧ Own wx w.heap.size (.int .i64 a) (.int .i64 b) ∧ Ext w wx
set_option maxHeartbeats 8000000 in
set_option maxRecDepth 100000 in
theorem walk (a0 b0 : Int) (w0 : (Lit.int .i64 a0).wf = true) (v0 : (Lit.int .i64 b0).wf = true) (s1 : ByteArray) (w1 : s1.size ≤ maxLen) (a2 : Int) (w2 : (Lit.int .i64 a2).wf = true) (w : World) :
    Calls Try.prog 4 #[.agg #[.int .i64 a0, .int .i64 b0], .string s1, .int .i64 a2] w fun e w' => e = .returned (.bool true) ∧ Grown w w' := by
  suffices hsuf : Calls Try.prog 4 #[.agg #[.int .i64 a0, .int .i64 b0], .string s1, .int .i64 a2] w fun e w' => e = .returned (.bool true) ∧ Ext w w' from hsuf.mono fun e w' ⟨he, hx⟩ => ⟨he, hx.grown⟩
  have hf := few_size s1
  obtain ⟨f, hfe⟩ : ∃ f, f = fewOf s1 := ⟨_, rfl⟩
  rw [← hfe] at hf
  obtain ⟨x, y, n, s1', s2'⟩ := both_accept a0 b0 a2 (i64_of_wf w0) (i64_of_wf v0) f (by omega)
  obtain ⟨z, t, k, n1, n2⟩ := both_number f (by omega) a2
  have cF := few_calls s1 w1
  rw [← hfe] at cF
  have CF := Lib.hid cF
  clear w0 v0 w1 w2 hf hfe cF
  go_enter Try.func4, Try.ntmps4
  try simp only [List.append]
  go_wp2_with fail
  have o0 := Own.last (X := w) (x := Value.int .i64 a0) (y := Value.int .i64 b0) (t := 24)
  have hX := (Ext.refl w).cells #[.int .i64 a0, .int .i64 b0] 24
  refine (shown3_calls _).mono ?_
  rintro e y0 ⟨rfl, hx⟩
  replace o0 := o0.ext hx
  replace hX := hX.trans hx
  clear hx
  have p0 := o0.c0
  have p1 := o0.c1
  have lt0 := o0.lt
  go_wp2_with fail
  go_cut [8, 9] (fun u v wx => Got w a0 b0 x y n u v wx)
  case first =>
    go_region_with (first | (go_at_call 22; refine (CF.out _).mono ?_; rintro e y1 ⟨rfl, rfl⟩) | (go_at_call 21; refine (s1' _).mono ?_; rintro e y1 ⟨rfl, hx⟩; first | (have q := ((Own.last (x := Value.int .i64 0) (y := Value.int .i64 0) (t := 24)).ext (Ext.drew (Ext.refl _))).ext hx; have q0 := q.c0; have q1 := q.c1; have q2 := q.f0; have q3 := q.f1; have q4 := q.lt) | skip))
    all_goals
      go_wp2_with fail
      go_meet
      first
      | exact ⟨_, rfl, rfl, Own.last, ((o0.ext (Ext.drew (Ext.refl _))).ext hx).alloc _ _, (hX.drew.trans hx).cells _ _, Nat.lt_of_lt_of_le lt0 hx.1.size⟩
      | exact ⟨_, rfl, rfl, q.set _ _, (((o0.alloc _ _).ext (Ext.drew (Ext.refl _))).ext hx).other (Nat.ne_of_gt lt0) _ _, ((hX.cells _ _).drew.trans hx).set2 (Nat.le_of_lt lt0) _ _, lt0⟩
  case rest =>
    obtain ⟨k1, rfl, rfl, o1, o0', hX', hlt⟩ := hcut
    clear o0 hX p0 p1 lt0
    have p0 := o0'.c0
    have p1 := o0'.c1
    have lt0 := o0'.lt
    have lt1 := o1.lt
    go_wp2_with fail
    go_cut [10, 11] (fun u v wx => Got2 w k1 a0 b0 x y n u v wx)
    case first =>
      go_region_with (first | (go_at_call 22; refine (CF.out _).mono ?_; rintro e y1 ⟨rfl, rfl⟩) | (go_at_call 23; refine (s2' _).mono ?_; rintro e y1 ⟨rfl, hx⟩; first | (have q := ((Own.last (x := Value.int .i64 0) (y := Value.int .i64 0) (t := 24)).ext (Ext.drew (Ext.refl _))).ext hx; have q0 := q.c0; have q1 := q.c1; have q2 := q.f0; have q3 := q.f1; have q4 := q.lt) | skip))
      all_goals
        go_wp2_with fail
        go_meet
        first
        | exact ⟨_, rfl, rfl, Own.last, ((o1.ext (Ext.drew (Ext.refl _))).ext hx).alloc _ _, ((o0'.ext (Ext.drew (Ext.refl _))).ext hx).alloc _ _, (hX'.drew.trans hx).cells _ _⟩
        | exact ⟨_, rfl, rfl, q.set _ _, (((o1.alloc _ _).ext (Ext.drew (Ext.refl _))).ext hx).other (Nat.ne_of_gt lt1) _ _, (((o0'.alloc _ _).ext (Ext.drew (Ext.refl _))).ext hx).other (Nat.ne_of_gt lt0) _ _, ((hX'.cells _ _).drew.trans hx).set2 (Nat.le_of_lt lt0) _ _⟩
    case rest =>
      obtain ⟨k2, rfl, rfl, o2, o1', o0, hX⟩ := hcut
      clear o0' o1 hX' p0 p1 lt0 lt1
      go_wp2_with fail
      refine (CF.out _).mono ?_
      rintro e y2 ⟨rfl, rfl⟩
      go_wp2_with fail
      refine (n1 _).mono ?_
      rintro e y3 ⟨rfl, hx⟩
      replace o1' := (o1'.ext hx).alloc #[.int .i64 z, .int .i64 t] 24
      replace o2 := (o2.ext hx).alloc #[.int .i64 z, .int .i64 t] 24
      replace hX := (hX.trans hx).cells #[.int .i64 z, .int .i64 t] 24
      clear hx
      have o3 := Own.last (X := y3) (x := Value.int .i64 z) (y := Value.int .i64 t) (t := 24)
      go_wp2_with fail
      refine (CF.out _).mono ?_
      rintro e y4 ⟨rfl, rfl⟩
      go_wp2_with fail
      refine (n2 _).mono ?_
      rintro e y5 ⟨rfl, hx⟩
      replace o1' := (o1'.ext hx).alloc #[.int .i64 z, .int .i64 t] 24
      replace o2 := (o2.ext hx).alloc #[.int .i64 z, .int .i64 t] 24
      replace o3 := (o3.ext hx).alloc #[.int .i64 z, .int .i64 t] 24
      replace hX := (hX.trans hx).cells #[.int .i64 z, .int .i64 t] 24
      clear hx
      have o4 := Own.last (X := y5) (x := Value.int .i64 z) (y := Value.int .i64 t) (t := 24)
      have p0 := o1'.c0
      have p1 := o1'.c1
      have p2 := o2.c0
      have p3 := o2.c1
      have p4 := o3.c0
      have p5 := o3.c1
      have p6 := o4.c0
      have p7 := o4.c1
      go_wp2_with fail
      go_ret
      exact ⟨rfl, hX⟩

set_option maxRecDepth 100000 in
theorem lifted (os : Os) (started : os.Started) (H : Type) (enc : TypeId × Value → H) :
    ReturnsInHanded {} Try.checked os 4 .any (Rows.digitReadsSpec.pre6 enc Try.prog Try.f4 Rows.digitReadsRow.domain false) (Rows.digitReadsSpec.post enc Try.prog Try.f4 false true false false) := by
  refine returnsInHanded_of_change (C := Try.checked) own started (by kernel_rfl) Try.func4
    (ChangeSpec.witness6 (enc := enc) (C := Try.checked) false ⟨#[], #[.agg #[.int .i64 0, .int .i64 0], .string ⟨#[]⟩, .int .i64 0], []⟩ 8 (by kernel_rfl) (by kernel_rfl) (by kernel_rfl) (by kernel_rfl)) ?_
  intro W base args ds gs before hval0 hW hcnd _
  have hval : ∀ (j : Nat) t v, Try.f4.params[j]? = some t → args[j]? = some v → Value.okWide Try.prog W .any base t v := hval0
  have hW' := hW
  obtain ⟨p, q, hA0, hV, rfl, hfz, hnd⟩ := hW
  have hA : DataW.TrodAll enc Try.prog W 0 (fun _ => true) true Try.f4.params.toList args.toList ds p := hA0
  rw [Try.params4] at hA hval
  obtain ⟨v0, vs0, d0, ds0, p0, q0, hargs, rfl, rfl, h0, r0⟩ := trodAll_cons hA
  obtain ⟨v1, vs1, d1, ds1, p1, q1, rfl, rfl, rfl, h1, r1⟩ := trodAll_cons r0
  obtain ⟨v2, vs2, d2, ds2, p2, q2, rfl, rfl, rfl, h2, r2⟩ := trodAll_cons r1
  obtain ⟨rfl, rfl, rfl⟩ := trodAll_nil r2
  obtain rfl : args = #[v0, v1, v2] := by cases args; simp_all
  obtain ⟨rfl, rfl⟩ := trodVars_none hV
  obtain ⟨a0, b0, rfl, rfl, rfl, w0, v0'⟩ := open_pair (hval 0 24 v0 rfl rfl) h0
  obtain ⟨s1, rfl, rfl, rfl, w1⟩ := open_string Try.underlying9 (hval 1 9 v1 rfl rfl) h1
  obtain ⟨a2, rfl, rfl, rfl, w2⟩ := open_int Try.underlying3 (hval 2 3 v2 rfl rfl) h2
  clear hA0 hval0
  simp only [List.append_nil] at hW'
  refine (walk a0 b0 w0 v0' s1 w1 a2 w2 W).mono fun e W' ⟨he, hg⟩ => ?_
  subst he
  exact ⟨_, rfl, post_of_same (pa := []) (pv := []) hW' (fun _ _ _ => (trodAll_cons_mk (shut_bool Try.underlying4 _) trodAll_mk0)) (fun sp _ => (trodAll_cons_mk (shut_pair w0 v0') (trodAll_cons_mk (shut_string Try.underlying9 w1) (trodAll_cons_mk (shut_int Try.underlying3 w2) trodAll_mk0)))) (fun _ _ => rfl) rfl
    (hg.frame _) hg.2.1 (ok_one (by kernel_rfl) rfl (okWide_bool_mk Try.underlying4 _))⟩

theorem over : Rows.digitReadsRow.holds Try.pinned (OpenSpec.ofChange Rows.digitReadsSpec) :=
  OpenClaim.holds_of_wide 4 Try.f4 rfl rfl rfl rfl rfl rfl rfl ⟨rfl, rfl, rfl, rfl, rfl⟩ rfl rfl rfl rfl rfl (by kernel_rfl) Try.func4 (by kernel_rfl)
    (of_decide_eq_true (by kernel_rfl)) (by unfold Func.isWrapper; first | (rw [if_pos (by decide +kernel)]; kernel_rfl) | (rw [if_neg (by decide +kernel)]; exact ⟨rfl, rfl⟩))
    (fun os started H enc _ => lifted os started H enc)

/-- THE STATEMENT -/
theorem proved : Rows.DigitReadsSaid :=
  over
#print axioms proved
end Go.Proofs.Ytoaijcahjmkkpaa.digitReads
