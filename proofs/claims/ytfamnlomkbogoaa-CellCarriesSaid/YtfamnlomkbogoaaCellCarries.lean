/- CellCarries: for all integers given, the call returns true and the arguments read as before. No condition. -/
import Derived.Test.YtfamnlomkbogoaaRows
import Derived.Test.YtfamnlomkbogoaaC1Laws
import Derived.Test.YtfamnlomkbogoaaC1Bits
import Derived.WalkKit
import Derived.ProofKit
import Derived.OpenShut
namespace Go.Proofs.Ytfamnlomkbogoaa.cellCarries
open Go.ChangeShapes Go.WideShapes Go.ChangeAt Go.RowKit
set_option linter.unusedVariables false      -- a walk need not use every 'w<i>' (that an integer argument fits its kind)

theorem own : ownKnob Try.prog.godebug = none := by kernel_rfl

/-! ### STEP 1: THE WALK: the Go text returns true. 'Grown w w'': the world has at most new blocks (Derived/RowKit3.lean). Part the cases AHEAD of 'go_enter' where a test parts the walk; take each callee by a contract of your own. -/
set_option maxHeartbeats 8000000 in
set_option maxRecDepth 100000 in
theorem walk (a0 : Int) (a1 : Int) (a2 : Int) (w0 : (Lit.int .i64 a0).wf = true) (w1 : (Lit.int .i64 a1).wf = true) (w2 : (Lit.int .i64 a2).wf = true) (w : World) :
    Calls Try.prog 9 #[.int .i64 a0, .int .i64 a1, .int .i64 a2] w fun e w' => e = .returned (.bool true) ∧ Grown w w' := by
  have h0 := i64_of_wf w0
  have h1 := i64_of_wf w1
  have h2 := i64_of_wf w2
  suffices h : Calls Try.prog 9 #[.int .i64 a0, .int .i64 a1, .int .i64 a2] w fun e w' => e = .returned (.bool true) ∧ Ext w w' from h.mono fun e w' ⟨he, hx⟩ => ⟨he, hx.grown⟩
  have hE := Ext.refl w
  have f1 : (twoV 11 a0 a1 == twoV 11 a1 a0) = true := by rw [v11, v11, Int.add_comm, beq_iff_eq]
  have f2 : (twoV 12 (twoV 11 a0 a1) a1 == a0) = true := by rw [v11, v12, wrap_sub_l, beq_iff_eq, Int.add_sub_cancel, wrap_id h0]
  have f3 : (twoV 12 a0 a1 == wrap64 (-twoV 12 a1 a0)) = true := by rw [v12, v12, wrap_neg, beq_iff_eq, Int.neg_sub]
  have f4 : (twoV 13 a0 a1 == twoV 13 a1 a0) = true := by rw [v13, v13, Int.mul_comm, beq_iff_eq]
  have f5 : (twoV 13 (twoV 11 a0 a1) a2 == twoV 11 (twoV 13 a0 a2) (twoV 13 a1 a2)) = true := by rw [v13, v11, v11, v13, v13, wrap_mul_l, wrap_add_l, wrap_add_r, Int.add_mul, beq_iff_eq]
  have f6 : (twoV 13 (twoV 13 a0 a1) a2 == twoV 13 a0 (twoV 13 a1 a2)) = true := by rw [v13, v13, v13, v13, wrap_mul_l, wrap_mul_r, Int.mul_assoc, beq_iff_eq]
  have f7 : (twoV 13 a0 1 == a0) = true := by rw [v13, Int.mul_one, wrap_id h0, beq_iff_eq]
  have f8 : (twoV 11 a0 0 == a0) = true := by rw [v11, Int.add_zero, wrap_id h0, beq_iff_eq]
  clear h0 w0 h1 w1 h2 w2
  go_enter Try.func9, Try.ntmps9
  try simp only [List.append]
  go_wp2_with (first | (go_at_call 10; refine (shown_calls w _ hE).mono ?_; clear hE; rintro e w' ⟨rfl, hE⟩) | (go_at_call 24; refine (carries_two w _ _ _ _ hE).mono ?_; clear hE; rintro e w' ⟨rfl, hE⟩))
  go_ret
  exact ⟨rfl, hE⟩

/-! ### THE ROW's STEP: WRITTEN OUT: LEAVE IT -/
set_option maxRecDepth 100000 in
theorem lifted (os : Os) (started : os.Started) (H : Type) (enc : TypeId × Value → H) :
    ReturnsInHanded {} Try.checked os 9 .any (Rows.cellCarriesSpec.pre6 enc Try.prog Try.f9 Rows.cellCarriesRow.domain false) (Rows.cellCarriesSpec.post enc Try.prog Try.f9 false true false false) := by
  refine returnsInHanded_of_change (C := Try.checked) own started (by kernel_rfl) Try.func9
    (ChangeSpec.witness6 (enc := enc) (C := Try.checked) false ⟨#[], #[.int .i64 0, .int .i64 0, .int .i64 0], []⟩ 8 (by kernel_rfl) (by kernel_rfl) (by kernel_rfl) (by kernel_rfl)) ?_
  intro W base args ds gs before hval0 hW hcnd _
  have hval : ∀ (j : Nat) t v, Try.f9.params[j]? = some t → args[j]? = some v → Value.okWide Try.prog W .any base t v := hval0
  have hW' := hW
  obtain ⟨p, q, hA0, hV, rfl, hfz, hnd⟩ := hW
  have hA : DataW.TrodAll enc Try.prog W 0 (fun _ => true) true Try.f9.params.toList args.toList ds p := hA0
  rw [Try.params9] at hA hval
  obtain ⟨v0, vs0, d0, ds0, p0, q0, hargs, rfl, rfl, h0, r0⟩ := trodAll_cons hA
  obtain ⟨v1, vs1, d1, ds1, p1, q1, rfl, rfl, rfl, h1, r1⟩ := trodAll_cons r0
  obtain ⟨v2, vs2, d2, ds2, p2, q2, rfl, rfl, rfl, h2, r2⟩ := trodAll_cons r1
  obtain ⟨rfl, rfl, rfl⟩ := trodAll_nil r2
  obtain rfl : args = #[v0, v1, v2] := by cases args; simp_all
  obtain ⟨rfl, rfl⟩ := trodVars_none hV
  obtain ⟨a0, rfl, rfl, rfl, w0⟩ := open_int Try.underlying22 (hval 0 22 v0 rfl rfl) h0
  obtain ⟨a1, rfl, rfl, rfl, w1⟩ := open_int Try.underlying22 (hval 1 22 v1 rfl rfl) h1
  obtain ⟨a2, rfl, rfl, rfl, w2⟩ := open_int Try.underlying22 (hval 2 22 v2 rfl rfl) h2
  clear hA0 hval0
  simp only [List.append_nil] at hW'
  refine (walk a0 a1 a2 w0 w1 w2 W).mono fun e W' ⟨he, hg⟩ => ?_
  subst he
  exact ⟨_, rfl, post_of_same (pa := []) (pv := []) hW' (fun _ _ _ => (trodAll_cons_mk (shut_bool Try.underlying4 _) trodAll_mk0)) (fun sp _ => (trodAll_cons_mk (shut_int Try.underlying22 w0) (trodAll_cons_mk (shut_int Try.underlying22 w1) (trodAll_cons_mk (shut_int Try.underlying22 w2) trodAll_mk0)))) (fun _ _ => rfl) rfl
    (hg.frame _) hg.2.1 (ok_one (by kernel_rfl) rfl (okWide_bool_mk Try.underlying4 _))⟩

theorem over : Rows.cellCarriesRow.holds Try.pinned (OpenSpec.ofChange Rows.cellCarriesSpec) :=
  OpenClaim.holds_of_wide 9 Try.f9 rfl rfl rfl rfl rfl rfl rfl ⟨rfl, rfl, rfl, rfl, rfl⟩ rfl rfl rfl rfl rfl (by kernel_rfl) Try.func9 (by kernel_rfl)
    (of_decide_eq_true (by kernel_rfl)) (by unfold Func.isWrapper; first | (rw [if_pos (by decide +kernel)]; kernel_rfl) | (rw [if_neg (by decide +kernel)]; exact ⟨rfl, rfl⟩))
    (fun os started H enc _ => lifted os started H enc)

/-- THE STATEMENT -/
theorem proved : Rows.CellCarriesSaid :=
  over
#print axioms proved
end Go.Proofs.Ytfamnlomkbogoaa.cellCarries
