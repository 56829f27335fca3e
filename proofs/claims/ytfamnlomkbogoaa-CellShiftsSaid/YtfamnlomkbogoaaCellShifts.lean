/- CellShifts: for all integers given, the call returns true and the arguments read as before. No condition. -/
import Derived.Test.YtfamnlomkbogoaaRows
import Derived.Test.YtfamnlomkbogoaaC1Laws
import Derived.Test.YtfamnlomkbogoaaC1Shift
import Derived.WalkKit
import Derived.ProofKit
import Derived.OpenShut
namespace Go.Proofs.Ytfamnlomkbogoaa.cellShifts
open Go.ChangeShapes Go.WideShapes Go.ChangeAt Go.RowKit
set_option linter.unusedVariables false      -- a walk need not use every 'w<i>' (that an integer argument fits its kind)

theorem own : ownKnob Try.prog.godebug = none := by kernel_rfl

theorem ext_cell {w0 w : World} (h : Ext w0 w) {b o : Nat} {v : Value} (hb : b < w0.heap.size) (hc : w0.cell? ⟨b, o, none⟩ = some v) : w.cell? ⟨b, o, none⟩ = some v :=
  (Below.cell h.1 (p := ⟨b, o, none⟩) hb).trans hc
/-- What the round asks of a shift. -/
structure Moved (op a x y f : Int) : Prop where
  ok : twoE op (x + y) = 0
  okf : twoE op f = 0
  sum : (twoV op (twoV op a x) y != twoV op a (x + y)) = false
  far : (f < 0 ∧ decide (f < 0) = true ∧ (twoV op a f != 0) = false ∧ (f == 0) = false) ∨ (0 ≤ f ∧ 64 ≤ f ∧ decide (f < 0) = false ∧ decide (64 ≤ f) = true ∧ (twoV op a f != 0) = false ∧ (f == 0) = false) ∨ (f = 0 ∧ (twoV op a 0 != a) = false) ∨ (0 < f ∧ f < 64 ∧ decide (f < 0) = false ∧ decide (64 ≤ f) = false ∧ (f == 0) = false)
theorem moved_left (a x y f : Int) (ha : I64 a) (hf : I64 f) (hx : 0 ≤ x) (hx' : x < 64) (hy : 0 ≤ y) (hy' : y < 64) : Moved 19 a x y f := by
  refine ⟨by simp [twoE], by simp [twoE], by rw [v19, v19, v19, shl_add a x y hx hx' hy hy']; simp, ?_⟩
  rw [v19, v19, shl_zero a ha]
  by_cases h1 : f < 0
  · left; rw [shl_far a f hf (.inl h1)]; exact ⟨h1, by simpa using h1, rfl, by simp; omega⟩
  · by_cases h2 : 64 ≤ f
    · right; left; rw [shl_far a f hf (.inr h2)]; exact ⟨by omega, h2, by simpa using h1, by simpa using h2, rfl, by simp; omega⟩
    · by_cases h3 : f = 0
      · right; right; left; exact ⟨h3, by simp⟩
      · right; right; right; exact ⟨by omega, by omega, by simpa using h1, by simpa using h2, by simpa using h3⟩
theorem moved_right (a x y f : Int) (ha : I64 a) (hf : I64 f) (hx : 0 ≤ x) (hx' : x < 64) (hy : 0 ≤ y) (hy' : y < 64) : Moved 20 a x y f := by
  refine ⟨by simp [twoE], by simp [twoE], by rw [v20, v20, v20, shr_add a x y hx hx' hy hy']; simp, ?_⟩
  rw [v20, v20, shr_zero a ha]
  by_cases h1 : f < 0
  · left; rw [shr_far a f hf (.inl h1)]; exact ⟨h1, by simpa using h1, rfl, by simp; omega⟩
  · by_cases h2 : 64 ≤ f
    · right; left; rw [shr_far a f hf (.inr h2)]; exact ⟨by omega, h2, by simpa using h1, by simpa using h2, rfl, by simp; omega⟩
    · by_cases h3 : f = 0
      · right; right; left; exact ⟨h3, by simp⟩
      · right; right; right; exact ⟨by omega, by omega, by simpa using h1, by simpa using h2, by simpa using h3⟩

/-! ### STEP 1: THE WALK: the Go text returns true. 'Grown w w'': the world has at most new blocks (Derived/RowKit3.lean). Part the cases AHEAD of 'go_enter' where a test parts the walk; take each callee by a contract of your own. -/
set_option maxHeartbeats 8000000 in
set_option maxRecDepth 100000 in
theorem walk (a0 : Int) (a1 : Int) (a2 : Int) (a3 : Int) (w0 : (Lit.int .i64 a0).wf = true) (w1 : (Lit.int .u8 a1).wf = true) (w2 : (Lit.int .u8 a2).wf = true) (w3 : (Lit.int .i64 a3).wf = true) (w : World) :
    Calls Try.prog 6 #[.int .i64 a0, .int .u8 a1, .int .u8 a2, .int .i64 a3] w fun e w' => e = .returned (.bool true) ∧ Grown w w' := by
  have h0 := i64_of_wf w0
  have h3 := i64_of_wf w3
  have b1 : 0 ≤ a1 ∧ a1 ≤ 255 := by simpa [Lit.wf, IntKind.min, IntKind.max, IntKind.signed, IntKind.bits] using w1
  have b2 : 0 ≤ a2 ∧ a2 ≤ 255 := by simpa [Lit.wf, IntKind.min, IntKind.max, IntKind.signed, IntKind.bits] using w2
  obtain ⟨b1, b1'⟩ := b1
  obtain ⟨b2, b2'⟩ := b2
  suffices h : Calls Try.prog 6 #[.int .i64 a0, .int .u8 a1, .int .u8 a2, .int .i64 a3] w fun e w' => e = .returned (.bool true) ∧ Ext w w' from h.mono fun e w' ⟨he, hx⟩ => ⟨he, hx.grown⟩
  have hl := moved_left a0 (a1 % 64) (a2 % 64) a3 h0 h3 (by omega) (by omega) (by omega) (by omega)
  have hr := moved_right a0 (a1 % 64) (a2 % 64) a3 h0 h3 (by omega) (by omega) (by omega) (by omega)
  have hz := shl_zero a0 h0
  have HZ := Lib.hid hz
  have HL := Lib.hid hl
  have HR := Lib.hid hr
  clear hl hr h0 h3 hz w0 w1 w2 w3
  have hE := Ext.refl w
  have x0 : 0 ≤ a1 % 64 := by omega
  have x1 : a1 % 64 ≤ 63 := by omega
  have y0 : 0 ≤ a2 % 64 := by omega
  have y1 : a2 % 64 ≤ 63 := by omega
  go_enter Try.func6, Try.ntmps6
  try simp only [List.append]
  go_wp2_with (first | (go_at_call 10; refine (shown_calls w _ hE).mono ?_; clear hE; rintro e w' ⟨rfl, hE⟩))
  obtain ⟨W1, hW1⟩ : ∃ W1 : World, W1 = w'.alloc (.cells #[.int .i64 19, .int .i64 20] 3) := ⟨_, rfl⟩
  have hb1 : w'.heap.size < W1.heap.size := by rw [hW1]; exact World.size_alloc _ _ ▸ Nat.lt_succ_self _
  have c0 : W1.cell? ⟨w'.heap.size, 0, none⟩ = some (.int .i64 19) := by rw [hW1]; simp
  have c1 : W1.cell? ⟨w'.heap.size, 1, none⟩ = some (.int .i64 20) := by rw [hW1]; simp
  have hEE : Ext w W1 := by rw [hW1]; exact hE.cells _ _
  go_loopw [34] (fun i wr => ∃ k : Nat, k ≤ 2 ∧ i = .int .i64 k ∧ Ext W1 wr) (fun i _ => 2 - (intOf i).toNat)
  case atStart => exact ⟨0, by omega, rfl, by rw [hW1]; exact Ext.refl _⟩
  case round =>
    obtain ⟨k, hk, rfl, hx⟩ := hrel
    have hk3 : k = 0 ∨ k = 1 ∨ k = 2 := by omega
    rcases hk3 with rfl | rfl | rfl
    · have hc := ext_cell hx hb1 c0
      obtain ⟨ok, okf, sum, far⟩ := HL.out
      clear HL HR HZ c0 c1 hb1 hEE hE hW1 hk
      rcases far with ⟨g0, g1, g2, g3⟩ | ⟨g0, g1, g2, g3, g4, g5⟩ | ⟨rfl, g1⟩ | ⟨g0, g1, g2, g3, g4⟩
      all_goals
        go_wp2_with (go_at_call 13; refine (two_ext W1 _ _ _ _ hx).mono ?_; clear hx; rintro e w' ⟨rfl, hx⟩)
        go_roundw
        case rel => exact ⟨1, by omega, rfl, hx⟩
        case measure => simp [intOf]
    · have hc := ext_cell hx hb1 c1
      obtain ⟨ok, okf, sum, far⟩ := HR.out
      clear HL HR HZ c0 c1 hb1 hEE hE hW1 hk
      rcases far with ⟨g0, g1, g2, g3⟩ | ⟨g0, g1, g2, g3, g4, g5⟩ | ⟨rfl, g1⟩ | ⟨g0, g1, g2, g3, g4⟩
      all_goals
        go_wp2_with (go_at_call 13; refine (two_ext W1 _ _ _ _ hx).mono ?_; clear hx; rintro e w' ⟨rfl, hx⟩)
        go_roundw
        case rel => exact ⟨2, by omega, rfl, hx⟩
        case measure => simp [intOf]
    · have hx2 : Ext w wr := hEE.trans hx
      clear HL HR c0 c1 hb1 hEE hE hW1 hk hx
      rw [show ((2 : Nat) : Int) = 2 from rfl]
      go_wp2
      go_loop [22, 101] (fun u i => ∃ k : Nat, (k : Int) ≤ a1 % 64 ∧ i = .int .i64 k ∧ u = .int .i64 (shl a0 k)) (fun _ i => (a1 % 64 - intOf i).toNat)
      case atStart => exact ⟨0, x0, rfl, by rw [show ((0 : Nat) : Int) = 0 from rfl, HZ.out]⟩
      case round =>
        obtain ⟨k, hk, rfl, rfl⟩ := hrel
        by_cases hlt : (k : Int) < a1 % 64
        · have hs := Lib.hid (shl_step a0 k (by omega) (by omega))
          go_wp2_with (go_at_call 11; refine (one_calls _ _ _).mono ?_; rintro e w' ⟨rfl, rfl⟩)
          go_round
          case rel => exact ⟨k + 1, by omega, by go_num, by rw [hs.out]; go_num⟩
          case measure => simp [intOf]; omega
        · have hq : (twoV 19 a0 (a1 % 64) == shl a0 k) = true := by rw [v19, show a1 % 64 = (k : Int) from by omega]; simp
          go_wp2_with (go_at_call 13; refine (two_ext w _ _ _ _ hx2).mono ?_; clear hx2; rintro e w' ⟨rfl, hx2⟩)
          go_ret
          exact ⟨rfl, hx2⟩

/-! ### THE ROW's STEP: WRITTEN OUT: LEAVE IT -/
set_option maxRecDepth 100000 in
theorem lifted (os : Os) (started : os.Started) (H : Type) (enc : TypeId × Value → H) :
    ReturnsInHanded {} Try.checked os 6 .any (Rows.cellShiftsSpec.pre6 enc Try.prog Try.f6 Rows.cellShiftsRow.domain false) (Rows.cellShiftsSpec.post enc Try.prog Try.f6 false true false false) := by
  refine returnsInHanded_of_change (C := Try.checked) own started (by kernel_rfl) Try.func6
    (ChangeSpec.witness6 (enc := enc) (C := Try.checked) false ⟨#[], #[.int .i64 0, .int .u8 0, .int .u8 0, .int .i64 0], []⟩ 8 (by kernel_rfl) (by kernel_rfl) (by kernel_rfl) (by kernel_rfl)) ?_
  intro W base args ds gs before hval0 hW hcnd _
  have hval : ∀ (j : Nat) t v, Try.f6.params[j]? = some t → args[j]? = some v → Value.okWide Try.prog W .any base t v := hval0
  have hW' := hW
  obtain ⟨p, q, hA0, hV, rfl, hfz, hnd⟩ := hW
  have hA : DataW.TrodAll enc Try.prog W 0 (fun _ => true) true Try.f6.params.toList args.toList ds p := hA0
  rw [Try.params6] at hA hval
  obtain ⟨v0, vs0, d0, ds0, p0, q0, hargs, rfl, rfl, h0, r0⟩ := trodAll_cons hA
  obtain ⟨v1, vs1, d1, ds1, p1, q1, rfl, rfl, rfl, h1, r1⟩ := trodAll_cons r0
  obtain ⟨v2, vs2, d2, ds2, p2, q2, rfl, rfl, rfl, h2, r2⟩ := trodAll_cons r1
  obtain ⟨v3, vs3, d3, ds3, p3, q3, rfl, rfl, rfl, h3, r3⟩ := trodAll_cons r2
  obtain ⟨rfl, rfl, rfl⟩ := trodAll_nil r3
  obtain rfl : args = #[v0, v1, v2, v3] := by cases args; simp_all
  obtain ⟨rfl, rfl⟩ := trodVars_none hV
  obtain ⟨a0, rfl, rfl, rfl, w0⟩ := open_int Try.underlying22 (hval 0 22 v0 rfl rfl) h0
  obtain ⟨a1, rfl, rfl, rfl, w1⟩ := open_int Try.underlying5 (hval 1 5 v1 rfl rfl) h1
  obtain ⟨a2, rfl, rfl, rfl, w2⟩ := open_int Try.underlying5 (hval 2 5 v2 rfl rfl) h2
  obtain ⟨a3, rfl, rfl, rfl, w3⟩ := open_int Try.underlying22 (hval 3 22 v3 rfl rfl) h3
  clear hA0 hval0
  simp only [List.append_nil] at hW'
  refine (walk a0 a1 a2 a3 w0 w1 w2 w3 W).mono fun e W' ⟨he, hg⟩ => ?_
  subst he
  exact ⟨_, rfl, post_of_same (pa := []) (pv := []) hW' (fun _ _ _ => (trodAll_cons_mk (shut_bool Try.underlying4 _) trodAll_mk0)) (fun sp _ => (trodAll_cons_mk (shut_int Try.underlying22 w0) (trodAll_cons_mk (shut_int Try.underlying5 w1) (trodAll_cons_mk (shut_int Try.underlying5 w2) (trodAll_cons_mk (shut_int Try.underlying22 w3) trodAll_mk0))))) (fun _ _ => rfl) rfl
    (hg.frame _) hg.2.1 (ok_one (by kernel_rfl) rfl (okWide_bool_mk Try.underlying4 _))⟩

theorem over : Rows.cellShiftsRow.holds Try.pinned (OpenSpec.ofChange Rows.cellShiftsSpec) :=
  OpenClaim.holds_of_wide 6 Try.f6 rfl rfl rfl rfl rfl rfl rfl ⟨rfl, rfl, rfl, rfl, rfl⟩ rfl rfl rfl rfl rfl (by kernel_rfl) Try.func6 (by kernel_rfl)
    (of_decide_eq_true (by kernel_rfl)) (by unfold Func.isWrapper; first | (rw [if_pos (by decide +kernel)]; kernel_rfl) | (rw [if_neg (by decide +kernel)]; exact ⟨rfl, rfl⟩))
    (fun os started H enc _ => lifted os started H enc)

/-- THE STATEMENT -/
theorem proved : Rows.CellShiftsSaid :=
  over
#print axioms proved
end Go.Proofs.Ytfamnlomkbogoaa.cellShifts
