/- CellDivides: for all integers given, the call returns true and the arguments read as before. No condition. -/
import Derived.Test.YtfamnlomkbogoaaRows
import Derived.Test.YtfamnlomkbogoaaC1Laws
import Derived.Test.YtfamnlomkbogoaaC1Bits
import Derived.WalkKit
import Derived.ProofKit
import Derived.OpenShut
namespace Go.Proofs.Ytfamnlomkbogoaa.cellDivides
open Go.ChangeShapes Go.WideShapes Go.ChangeAt Go.RowKit
set_option linter.unusedVariables false      -- a walk need not use every 'w<i>' (that an integer argument fits its kind)

theorem own : ownKnob Try.prog.godebug = none := by kernel_rfl

/-! ### STEP 1: THE WALK: the Go text returns true. 'Grown w w'': the world has at most new blocks (Derived/RowKit3.lean). Part the cases AHEAD of 'go_enter' where a test parts the walk; take each callee by a contract of your own. -/
set_option maxHeartbeats 8000000 in
set_option maxRecDepth 100000 in
theorem walk (a0 : Int) (a1 : Int) (w0 : (Lit.int .i64 a0).wf = true) (w1 : (Lit.int .i64 a1).wf = true) (w : World) :
    Calls Try.prog 4 #[.int .i64 a0, .int .i64 a1] w fun e w' => e = .returned (.bool true) ∧ Grown w w' := by
  have ha := i64_of_wf w0
  have hbb := i64_of_wf w1
  suffices h : Calls Try.prog 4 #[.int .i64 a0, .int .i64 a1] w fun e w' => e = .returned (.bool true) ∧ Ext w w' from h.mono fun e w' ⟨he, hx⟩ => ⟨he, hx.grown⟩
  have hE := Ext.refl w
  by_cases hb : a1 = 0
  · subst hb
    have e1 := v14z a0
    have e2 := v15z a0
    have e3 : twoE 14 0 = -10 := by decide
    have e4 : twoE 15 0 = -10 := by decide
    clear ha hbb w0 w1
    go_enter Try.func4, Try.ntmps4
    try simp only [List.append]
    go_wp2_with (first | (go_at_call 10; refine (shown_calls w _ (by assumption)).mono ?_; rintro e w' ⟨rfl, hx⟩) | (go_at_call 13; refine (two_ext w _ _ _ _ (by assumption)).mono ?_; rintro e w' ⟨rfl, hx⟩))
    go_ret
    exact ⟨rfl, by assumption⟩
  · have hb' : (a1 == 0) = false := by simpa using hb
    have e3 : twoE 14 a1 = 0 := by simp [twoE, hb]
    have e4 : twoE 15 a1 = 0 := by simp [twoE, hb]
    obtain ⟨d1, d2⟩ := divides a0 a1 ha hbb hb
    rw [← v14 a0 a1 hb, ← v15 a0 a1 hb] at d1
    rw [← v15 a0 a1 hb] at d2
    have d3 : (twoV 11 (twoV 13 (twoV 14 a0 a1) a1) (twoV 15 a0 a1) == a0) = true := by rw [v11, v13]; simpa using d1
    clear d1 ha hbb w0 w1 hb
    have d4 : ((0 ≤ twoV 15 a0 a1 ∧ twoV 15 a0 a1 < a1 ∧ decide (0 ≤ twoV 15 a0 a1) = true ∧ decide (twoV 15 a0 a1 < a1) = true)) ∨ (((twoV 15 a0 a1) ≤ 0 ∧ a1 < twoV 15 a0 a1 ∧ decide (0 ≤ twoV 15 a0 a1) = false ∧ decide ((twoV 15 a0 a1) ≤ 0) = true ∧ decide (a1 < twoV 15 a0 a1) = true)) ∨ (twoV 15 a0 a1 = 0 ∧ a1 < 0) := by
      rcases d2 with ⟨h1, h2⟩ | ⟨h1, h2⟩
      · exact .inl ⟨h1, h2, by simpa using h1, by simpa using h2⟩
      · by_cases h3 : twoV 15 a0 a1 = 0
        · exact .inr (.inr ⟨h3, h3 ▸ h2⟩)
        · exact .inr (.inl ⟨h1, h2, by simp; omega, by simpa using h1, by simpa using h2⟩)
    clear d2
    have d5 : (twoV 15 a0 a1 = 0) → (twoV 11 (twoV 13 (twoV 14 a0 a1) a1) 0 == a0) = true := fun h => h ▸ d3
    rcases d4 with ⟨h1, h2, h3, h4⟩ | ⟨h1, h2, h3, h4, h5⟩ | ⟨h1, h2⟩
    · clear d5
      go_enter Try.func4, Try.ntmps4
      try simp only [List.append]
      go_wp2_with (first | (go_at_call 10; refine (shown_calls w _ (by assumption)).mono ?_; rintro e w' ⟨rfl, hx⟩) | (go_at_call 13; refine (two_ext w _ _ _ _ (by assumption)).mono ?_; rintro e w' ⟨rfl, hx⟩))
      go_ret
      exact ⟨rfl, by assumption⟩
    · clear d5
      go_enter Try.func4, Try.ntmps4
      try simp only [List.append]
      go_wp2_with (first | (go_at_call 10; refine (shown_calls w _ (by assumption)).mono ?_; rintro e w' ⟨rfl, hx⟩) | (go_at_call 13; refine (two_ext w _ _ _ _ (by assumption)).mono ?_; rintro e w' ⟨rfl, hx⟩))
      go_ret
      exact ⟨rfl, by assumption⟩
    · have d6 := d5 h1
      clear d5 d3
      go_enter Try.func4, Try.ntmps4
      try simp only [List.append]
      go_wp2_with (first | (go_at_call 10; refine (shown_calls w _ (by assumption)).mono ?_; rintro e w' ⟨rfl, hx⟩) | (go_at_call 13; refine (two_ext w _ _ _ _ (by assumption)).mono ?_; rintro e w' ⟨rfl, hx⟩))
      go_ret
      exact ⟨rfl, by assumption⟩

/-! ### THE ROW's STEP: WRITTEN OUT: LEAVE IT -/
set_option maxRecDepth 100000 in
theorem lifted (os : Os) (started : os.Started) (H : Type) (enc : TypeId × Value → H) :
    ReturnsInHanded {} Try.checked os 4 .any (Rows.cellDividesSpec.pre6 enc Try.prog Try.f4 Rows.cellDividesRow.domain false) (Rows.cellDividesSpec.post enc Try.prog Try.f4 false true false false) := by
  refine returnsInHanded_of_change (C := Try.checked) own started (by kernel_rfl) Try.func4
    (ChangeSpec.witness6 (enc := enc) (C := Try.checked) false ⟨#[], #[.int .i64 0, .int .i64 0], []⟩ 8 (by kernel_rfl) (by kernel_rfl) (by kernel_rfl) (by kernel_rfl)) ?_
  intro W base args ds gs before hval0 hW hcnd _
  have hval : ∀ (j : Nat) t v, Try.f4.params[j]? = some t → args[j]? = some v → Value.okWide Try.prog W .any base t v := hval0
  have hW' := hW
  obtain ⟨p, q, hA0, hV, rfl, hfz, hnd⟩ := hW
  have hA : DataW.TrodAll enc Try.prog W 0 (fun _ => true) true Try.f4.params.toList args.toList ds p := hA0
  rw [Try.params4] at hA hval
  obtain ⟨v0, vs0, d0, ds0, p0, q0, hargs, rfl, rfl, h0, r0⟩ := trodAll_cons hA
  obtain ⟨v1, vs1, d1, ds1, p1, q1, rfl, rfl, rfl, h1, r1⟩ := trodAll_cons r0
  obtain ⟨rfl, rfl, rfl⟩ := trodAll_nil r1
  obtain rfl : args = #[v0, v1] := by cases args; simp_all
  obtain ⟨rfl, rfl⟩ := trodVars_none hV
  obtain ⟨a0, rfl, rfl, rfl, w0⟩ := open_int Try.underlying22 (hval 0 22 v0 rfl rfl) h0
  obtain ⟨a1, rfl, rfl, rfl, w1⟩ := open_int Try.underlying22 (hval 1 22 v1 rfl rfl) h1
  clear hA0 hval0
  simp only [List.append_nil] at hW'
  refine (walk a0 a1 w0 w1 W).mono fun e W' ⟨he, hg⟩ => ?_
  subst he
  exact ⟨_, rfl, post_of_same (pa := []) (pv := []) hW' (fun _ _ _ => (trodAll_cons_mk (shut_bool Try.underlying4 _) trodAll_mk0)) (fun sp _ => (trodAll_cons_mk (shut_int Try.underlying22 w0) (trodAll_cons_mk (shut_int Try.underlying22 w1) trodAll_mk0))) (fun _ _ => rfl) rfl
    (hg.frame _) hg.2.1 (ok_one (by kernel_rfl) rfl (okWide_bool_mk Try.underlying4 _))⟩

theorem over : Rows.cellDividesRow.holds Try.pinned (OpenSpec.ofChange Rows.cellDividesSpec) :=
  OpenClaim.holds_of_wide 4 Try.f4 rfl rfl rfl rfl rfl rfl rfl ⟨rfl, rfl, rfl, rfl, rfl⟩ rfl rfl rfl rfl rfl (by kernel_rfl) Try.func4 (by kernel_rfl)
    (of_decide_eq_true (by kernel_rfl)) (by unfold Func.isWrapper; first | (rw [if_pos (by decide +kernel)]; kernel_rfl) | (rw [if_neg (by decide +kernel)]; exact ⟨rfl, rfl⟩))
    (fun os started H enc _ => lifted os started H enc)

/-- THE STATEMENT -/
theorem proved : Rows.CellDividesSaid :=
  over
#print axioms proved
end Go.Proofs.Ytfamnlomkbogoaa.cellDivides
