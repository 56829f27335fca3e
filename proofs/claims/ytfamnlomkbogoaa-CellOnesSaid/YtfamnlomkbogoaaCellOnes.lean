/- CellOnes: for all integers given, the call returns true and the arguments read as before. No condition. -/
import Derived.Test.YtfamnlomkbogoaaRows
import Derived.Test.YtfamnlomkbogoaaC1Laws
import Derived.Test.YtfamnlomkbogoaaC1Bits
import Derived.WalkKit
import Derived.ProofKit
import Derived.OpenShut
namespace Go.Proofs.Ytfamnlomkbogoaa.cellOnes
open Go.ChangeShapes Go.WideShapes Go.ChangeAt Go.RowKit
set_option linter.unusedVariables false      -- a walk need not use every 'w<i>' (that an integer argument fits its kind)

theorem own : ownKnob Try.prog.godebug = none := by kernel_rfl

theorem half_quo (a : Int) (h : I64 a) : quo a 2 = a / 2 := by
  rw [quo_is a 2 h (by decide)]
  have h2 := Int.tdiv_mul_add_tmod a 2
  have hs := tmod_sign a 2
  have hm := tmod_bd a 2 (by decide)
  unfold I64 at h
  rw [← wrap_id (a := a / 2) (by unfold I64; omega)]
  congr 1
  by_cases h0 : 0 ≤ a
  · have := hs.1 h0
    split <;> omega
  · have := hs.2 (by omega)
    split <;> omega
theorem half_twice (a : Int) (h : I64 a) : (oneV 7 (oneV 6 a) == a) = true ∨ ((oneV 7 (oneV 6 a) == a) = false ∧ (oneV 7 (oneV 6 a) == bits .xor .i64 a (-9223372036854775808)) = true) := by
  rw [o6, o7, xor_min a h]
  unfold I64 at h
  unfold wrap64
  by_cases hh : (2 * a + 9223372036854775808) % 18446744073709551616 - 9223372036854775808 = 2 * a
  · left; rw [hh]; simp
  · right; split <;> simp <;> omega
theorem abs_is (a : Int) (h : I64 a) : (oneV 2 a == a) = true ∨ ((oneV 2 a == a) = false ∧ (oneV 2 a == wrap64 (-a)) = true) := by
  rw [o2]
  by_cases h2 : upper a (wrap64 (-a)) = a
  · left; simpa using h2
  · right
    refine ⟨by simpa using h2, ?_⟩
    unfold upper at *
    split <;> simp_all
theorem abs_sign (a : Int) (h : I64 a) : decide (0 ≤ oneV 2 a) = true ∨ (decide (0 ≤ oneV 2 a) = false ∧ (a == (-9223372036854775808)) = true) := by
  rw [o2]
  unfold I64 at h
  unfold upper wrap64
  by_cases h2 : a = -9223372036854775808
  · subst h2; right; decide
  · left; split <;> simp <;> omega
/-! ### STEP 1: THE WALK: the Go text returns true. 'Grown w w'': the world has at most new blocks (Derived/RowKit3.lean). Part the cases AHEAD of 'go_enter' where a test parts the walk; take each callee by a contract of your own. -/
set_option maxHeartbeats 8000000 in
set_option maxRecDepth 100000 in
theorem walk (a0 : Int) (w0 : (Lit.int .i64 a0).wf = true) (w : World) :
    Calls Try.prog 8 #[.int .i64 a0] w fun e w' => e = .returned (.bool true) ∧ Grown w w' := by
  have h0 := i64_of_wf w0
  suffices h : Calls Try.prog 8 #[.int .i64 a0] w fun e w' => e = .returned (.bool true) ∧ Ext w w' from h.mono fun e w' ⟨he, hx⟩ => ⟨he, hx.grown⟩
  have hE := Ext.refl w
  have g1 : twoE 1 a0 = 1 := by simp [twoE]
  have g2 : oneE 11 = 1 := by decide
  have f1 : (oneV 1 a0 != twoV 12 0 a0) = false := by simp [o1, v12]
  have f2 : (oneV 3 a0 != twoV 18 a0 (-1)) = false := by rw [o3, v18, ← xor_ones, xor_bv, xor_bv, BitVec.xor_comm]; simp
  have f3 : (oneV 4 a0 != twoV 11 a0 1) = false := by simp [o4, v11]
  have f4 : (oneV 5 a0 != twoV 12 a0 1) = false := by simp [o5, v12]
  have f5 : (oneV 6 a0 != twoV 13 a0 2) = false := by simp [o6, v13, Int.mul_comm]
  have f6 : (oneV 7 a0 != twoV 14 a0 2) = false := by rw [o7, v14 _ _ (by decide), half_quo a0 h0]; simp
  have f7 : (oneV 7 (oneV 6 a0) == a0) = false → (oneV 7 (oneV 6 a0) == bits .xor .i64 a0 (-9223372036854775808)) = true := fun hn => (half_twice a0 h0).elim (fun h => by rw [hn] at h; cases h) (fun h => h.2)
  have f8 : (oneV 8 a0 == twoV 21 a0 0) = true := by simp [o8, v21]
  have f9 : (oneV 10 a0 == twoV 22 a0 0) = true := by simp [o10, v22]
  have f10 : (oneV 9 a0 == twoV 23 a0 0) = true := by simp [o9, v23]
  have f11 : (oneV 2 a0 == a0) = false → (oneV 2 a0 == wrap64 (-a0)) = true := fun hn => (abs_is a0 h0).elim (fun h => by rw [hn] at h; cases h) (fun h => h.2)
  have f12 : decide (0 ≤ oneV 2 a0) = false → (a0 == (-9223372036854775808)) = true := fun hn => (abs_sign a0 h0).elim (fun h => by rw [hn] at h; cases h) (fun h => h.2)
  clear h0 w0
  go_enter Try.func8, Try.ntmps8
  try simp only [List.append]
  go_wp2_with (first | (go_at_call 10; refine (shown_calls w _ hE).mono ?_; clear hE; rintro e w' ⟨rfl, hE⟩) | (go_at_call 23; refine (ones_two w _ _ _ _ hE).mono ?_; clear hE; rintro e w' ⟨rfl, hE⟩) | (go_at_call 22; refine (ones_one w _ _ _ hE).mono ?_; clear hE; rintro e w' ⟨rfl, hE⟩) | (go_at_call 11; refine (one_ext w _ _ _ hE).mono ?_; clear hE; rintro e w' ⟨rfl, hE⟩) | (go_at_call 13; refine (two_ext w _ _ _ _ hE).mono ?_; clear hE; rintro e w' ⟨rfl, hE⟩))
  all_goals go_ret
  all_goals exact ⟨rfl, hE⟩

/-! ### THE ROW's STEP: WRITTEN OUT: LEAVE IT -/
set_option maxRecDepth 100000 in
theorem lifted (os : Os) (started : os.Started) (H : Type) (enc : TypeId × Value → H) :
    ReturnsInHanded {} Try.checked os 8 .any (Rows.cellOnesSpec.pre6 enc Try.prog Try.f8 Rows.cellOnesRow.domain false) (Rows.cellOnesSpec.post enc Try.prog Try.f8 false true false false) := by
  refine returnsInHanded_of_change (C := Try.checked) own started (by kernel_rfl) Try.func8
    (ChangeSpec.witness6 (enc := enc) (C := Try.checked) false ⟨#[], #[.int .i64 0], []⟩ 8 (by kernel_rfl) (by kernel_rfl) (by kernel_rfl) (by kernel_rfl)) ?_
  intro W base args ds gs before hval0 hW hcnd _
  have hval : ∀ (j : Nat) t v, Try.f8.params[j]? = some t → args[j]? = some v → Value.okWide Try.prog W .any base t v := hval0
  have hW' := hW
  obtain ⟨p, q, hA0, hV, rfl, hfz, hnd⟩ := hW
  have hA : DataW.TrodAll enc Try.prog W 0 (fun _ => true) true Try.f8.params.toList args.toList ds p := hA0
  rw [Try.params8] at hA hval
  obtain ⟨v0, vs0, d0, ds0, p0, q0, hargs, rfl, rfl, h0, r0⟩ := trodAll_cons hA
  obtain ⟨rfl, rfl, rfl⟩ := trodAll_nil r0
  obtain rfl : args = #[v0] := by cases args; simp_all
  obtain ⟨rfl, rfl⟩ := trodVars_none hV
  obtain ⟨a0, rfl, rfl, rfl, w0⟩ := open_int Try.underlying22 (hval 0 22 v0 rfl rfl) h0
  clear hA0 hval0
  simp only [List.append_nil] at hW'
  refine (walk a0 w0 W).mono fun e W' ⟨he, hg⟩ => ?_
  subst he
  exact ⟨_, rfl, post_of_same (pa := []) (pv := []) hW' (fun _ _ _ => (trodAll_cons_mk (shut_bool Try.underlying4 _) trodAll_mk0)) (fun sp _ => (trodAll_cons_mk (shut_int Try.underlying22 w0) trodAll_mk0)) (fun _ _ => rfl) rfl
    (hg.frame _) hg.2.1 (ok_one (by kernel_rfl) rfl (okWide_bool_mk Try.underlying4 _))⟩

theorem over : Rows.cellOnesRow.holds Try.pinned (OpenSpec.ofChange Rows.cellOnesSpec) :=
  OpenClaim.holds_of_wide 8 Try.f8 rfl rfl rfl rfl rfl rfl rfl ⟨rfl, rfl, rfl, rfl, rfl⟩ rfl rfl rfl rfl rfl (by kernel_rfl) Try.func8 (by kernel_rfl)
    (of_decide_eq_true (by kernel_rfl)) (by unfold Func.isWrapper; first | (rw [if_pos (by decide +kernel)]; kernel_rfl) | (rw [if_neg (by decide +kernel)]; exact ⟨rfl, rfl⟩))
    (fun os started H enc _ => lifted os started H enc)

/-- THE STATEMENT -/
theorem proved : Rows.CellOnesSaid :=
  over
#print axioms proved
end Go.Proofs.Ytfamnlomkbogoaa.cellOnes
