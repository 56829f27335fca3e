/- CellOrders: for all integers given, the call returns true and the arguments read as before. No condition. -/
import Derived.Test.YtfamnlomkbogoaaRows
import Derived.Test.YtfamnlomkbogoaaC1Laws
import Derived.Test.YtfamnlomkbogoaaC1Bits
import Derived.WalkKit
import Derived.ProofKit
import Derived.OpenShut
namespace Go.Proofs.Ytfamnlomkbogoaa.cellOrders
open Go.ChangeShapes Go.WideShapes Go.ChangeAt Go.RowKit
set_option linter.unusedVariables false      -- a walk need not use every 'w<i>' (that an integer argument fits its kind)

theorem own : ownKnob Try.prog.godebug = none := by kernel_rfl

theorem once_is (a b : Int) : (wrap64 (wrap64 (twoV 23 a b + twoV 24 a b) + twoV 21 a b) == -1) = true := by
  rw [v23, v24, v21]
  by_cases h1 : a < b
  · have h2 : ¬ b < a := by omega
    have h3 : (a == b) = false := by simp; omega
    simp only [h1, h2, h3, truth, decide_true, decide_false]
    decide +kernel
  · by_cases h2 : b < a
    · have h3 : (a == b) = false := by simp; omega
      simp only [h1, h2, h3, truth, decide_true, decide_false]
      decide +kernel
    · have h3 : (a == b) = true := by simp; omega
      simp only [h1, h2, h3, truth, decide_false]
      decide +kernel
theorem other_is (a b : Int) : (twoV 22 a b == wrap64 (-1 - twoV 21 a b)) = true := by
  rw [v22, v21]
  by_cases h : a = b
  · subst h
    simp only [bne_self_eq_false, beq_self_eq_true, truth]
    decide +kernel
  · have h3 : (a == b) = false := by simpa using h
    have h4 : (a != b) = true := by simpa using h
    simp only [h3, h4, truth]
    decide +kernel
/-! ### STEP 1: THE WALK: the Go text returns true. 'Grown w w'': the world has at most new blocks (Derived/RowKit3.lean). Part the cases AHEAD of 'go_enter' where a test parts the walk; take each callee by a contract of your own. -/
set_option maxHeartbeats 8000000 in
set_option maxRecDepth 100000 in
theorem walk (a0 : Int) (a1 : Int) (w0 : (Lit.int .i64 a0).wf = true) (w1 : (Lit.int .i64 a1).wf = true) (w : World) :
    Calls Try.prog 7 #[.int .i64 a0, .int .i64 a1] w fun e w' => e = .returned (.bool true) ∧ Grown w w' := by
  have h0 := i64_of_wf w0
  have h1 := i64_of_wf w1
  suffices h : Calls Try.prog 7 #[.int .i64 a0, .int .i64 a1] w fun e w' => e = .returned (.bool true) ∧ Ext w w' from h.mono fun e w' ⟨he, hx⟩ => ⟨he, hx.grown⟩
  have hE := Ext.refl w
  have f1 := once_is a0 a1
  have f2 := other_is a0 a1
  have f3 : decide (twoV 26 a0 a1 ≤ twoV 27 a0 a1) = true := by rw [v26, v27]; unfold lower upper; split <;> simp <;> omega
  have f4 : ((twoV 26 a0 a1 == a0) = true ∧ (twoV 27 a0 a1 == a1) = true) ∨ ((twoV 26 a0 a1 == a0) = false ∧ (twoV 26 a0 a1 == a1) = true ∧ (twoV 27 a0 a1 == a0) = true) := by rw [v26, v27]; unfold lower upper; split <;> simp <;> omega
  have f5 : (twoV 25 a0 a1 == twoV 23 (bits .xor .i64 a0 (-9223372036854775808)) (bits .xor .i64 a1 (-9223372036854775808))) = true := by rw [v25, v23, xor_min a0 h0, xor_min a1 h1, u64_wrap, u64_wrap, beq_iff_eq]; unfold I64 at h0 h1; exact truth_congr (by split <;> split <;> (rw [decide_eq_decide]; omega))
  have f6 : (twoV 24 a0 a1 == twoV 23 a1 a0) = true := by rw [v24, v23, beq_iff_eq]
  clear h0 w0 h1 w1
  rcases f4 with ⟨f4, f7⟩ | ⟨f4, f7, f8⟩
  all_goals
    go_enter Try.func7, Try.ntmps7
    try simp only [List.append]
    go_wp2_with (first | (go_at_call 10; refine (shown_calls w _ hE).mono ?_; clear hE; rintro e w' ⟨rfl, hE⟩) | (go_at_call 21; refine (orders_two w _ _ _ _ hE).mono ?_; clear hE; rintro e w' ⟨rfl, hE⟩))
    go_ret
    exact ⟨rfl, hE⟩

/-! ### THE ROW's STEP: WRITTEN OUT: LEAVE IT -/
set_option maxRecDepth 100000 in
theorem lifted (os : Os) (started : os.Started) (H : Type) (enc : TypeId × Value → H) :
    ReturnsInHanded {} Try.checked os 7 .any (Rows.cellOrdersSpec.pre6 enc Try.prog Try.f7 Rows.cellOrdersRow.domain false) (Rows.cellOrdersSpec.post enc Try.prog Try.f7 false true false false) := by
  refine returnsInHanded_of_change (C := Try.checked) own started (by kernel_rfl) Try.func7
    (ChangeSpec.witness6 (enc := enc) (C := Try.checked) false ⟨#[], #[.int .i64 0, .int .i64 0], []⟩ 8 (by kernel_rfl) (by kernel_rfl) (by kernel_rfl) (by kernel_rfl)) ?_
  intro W base args ds gs before hval0 hW hcnd _
  have hval : ∀ (j : Nat) t v, Try.f7.params[j]? = some t → args[j]? = some v → Value.okWide Try.prog W .any base t v := hval0
  have hW' := hW
  obtain ⟨p, q, hA0, hV, rfl, hfz, hnd⟩ := hW
  have hA : DataW.TrodAll enc Try.prog W 0 (fun _ => true) true Try.f7.params.toList args.toList ds p := hA0
  rw [Try.params7] at hA hval
  obtain ⟨v0, vs0, d0, ds0, p0, q0, hargs, rfl, rfl, h0, r0⟩ := trodAll_cons hA
  obtain ⟨v1, vs1, d1, ds1, p1, q1, rfl, rfl, rfl, h1, r1⟩ := trodAll_cons r0
  obtain ⟨rfl, rfl, rfl⟩ := trodAll_nil r1
  obtain rfl : args = #[v0, v1] := by cases args; simp_all
  obtain ⟨rfl, rfl⟩ := trodVars_none hV
  obtain ⟨a0, rfl, rfl, rfl, w0⟩ := open_int Try.underlying22 (hval 0 22 v0 rfl rfl) h0
  obtain ⟨a1, rfl, rfl, rfl, w1⟩ := open_int Try.underlying22 (hval 1 22 v1 rfl rfl) h1
  clear hA0 hval0
  simp only [List.append_nil] at hW'
  refine (walk a0 a1 w0 w1 W).mono fun e W' ⟨he, hg⟩ => ?_
  subst he
  exact ⟨_, rfl, post_of_same (pa := []) (pv := []) hW' (fun _ _ _ => (trodAll_cons_mk (shut_bool Try.underlying4 _) trodAll_mk0)) (fun sp _ => (trodAll_cons_mk (shut_int Try.underlying22 w0) (trodAll_cons_mk (shut_int Try.underlying22 w1) trodAll_mk0))) (fun _ _ => rfl) rfl
    (hg.frame _) hg.2.1 (ok_one (by kernel_rfl) rfl (okWide_bool_mk Try.underlying4 _))⟩

theorem over : Rows.cellOrdersRow.holds Try.pinned (OpenSpec.ofChange Rows.cellOrdersSpec) :=
  OpenClaim.holds_of_wide 7 Try.f7 rfl rfl rfl rfl rfl rfl rfl ⟨rfl, rfl, rfl, rfl, rfl⟩ rfl rfl rfl rfl rfl (by kernel_rfl) Try.func7 (by kernel_rfl)
    (of_decide_eq_true (by kernel_rfl)) (by unfold Func.isWrapper; first | (rw [if_pos (by decide +kernel)]; kernel_rfl) | (rw [if_neg (by decide +kernel)]; exact ⟨rfl, rfl⟩))
    (fun os started H enc _ => lifted os started H enc)

/-- THE STATEMENT -/
theorem proved : Rows.CellOrdersSaid :=
  over
#print axioms proved
end Go.Proofs.Ytfamnlomkbogoaa.cellOrders
