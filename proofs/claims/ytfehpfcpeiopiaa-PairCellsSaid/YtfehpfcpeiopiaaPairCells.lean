/- PairCells: for all arguments given, the call returns true and the arguments read as before. No condition. -/
import Derived.Test.YtfehpfcpeiopiaaRows
import Derived.Test.YtfehpfcpeiopiaaC2Laws
import Derived.WalkKit
import Derived.ProofKit
import Derived.OpenShut
namespace Go.Proofs.Ytfehpfcpeiopiaa.pairCells
open Go.ChangeShapes Go.WideShapes Go.ChangeAt Go.RowKit
set_option linter.unusedVariables false

theorem own : ownKnob Try.prog.godebug = none := by kernel_rfl

theorem i32_bd {a : Int} (h : (Lit.int .i32 a).wf = true) : -2147483648 ≤ a ∧ a ≤ 2147483647 := by
  simpa [Lit.wf, IntKind.min, IntKind.max, IntKind.signed, IntKind.bits] using h
theorem cells_mul (a b : Int) (ha : -2147483648 ≤ a ∧ a ≤ 2147483647) (hb : -2147483648 ≤ b ∧ b ≤ 2147483647) : -4611686018427387904 ≤ a * b ∧ a * b ≤ 4611686018427387904 := by
  have h : (a * b).natAbs ≤ 2147483648 * 2147483648 := by
    rw [Int.natAbs_mul]
    exact Nat.mul_le_mul (by omega) (by omega)
  omega
theorem cells_down (a b : Int) (ha : -2147483648 ≤ a ∧ a ≤ 2147483647) (hb : -2147483648 ≤ b ∧ b ≤ 2147483647) (hz : b ≠ 0) :
    ∃ D P : Int, cel (a.tdiv b) = true ∧ cel (FQ a b) = true ∧ FQ a b = D ∧ wrap64 (D * b) = P ∧ wrap64 (a - P) = FR a b ∧ wrap64 (a.tdiv b) = a.tdiv b ∧ (if (a.tmod b != 0 && (decide (a < 0) != decide (b < 0))) = true then wrap64 (a.tdiv b - 1) = D else a.tdiv b = D) := by
  have e := Int.tdiv_mul_add_tmod a b
  have hl := tmod_bd a b hz
  have hs := tmod_sign a b
  have hq : (a.tdiv b).natAbs ≤ a.natAbs := by rw [Int.natAbs_tdiv]; exact Nat.div_le_self _ _
  have hsm := floor_same a b hz
  have hle := floor_less a b hz
  by_cases hadj : a.tmod b ≠ 0 ∧ ¬ (a.tmod b < 0 ↔ b < 0)
  · obtain ⟨e1, e2⟩ := hle hadj.1 hadj.2
    rw [e1, e2]
    have hc : (a.tmod b != 0 && (decide (a < 0) != decide (b < 0))) = true := by
      simp only [Bool.and_eq_true, bne_iff_ne, ne_eq, decide_eq_decide]
      refine ⟨hadj.1, ?_⟩
      have := hadj.2
      omega
    have hm : (a.tdiv b + -1) * b = a - (a.tmod b + b) := by rw [Int.add_mul]; omega
    refine ⟨_, _, cel_of (by unfold I64; omega), cel_of (by unfold I64; omega), rfl, rfl, ?_, wrap_id (by unfold I64; omega), ?_⟩
    · have w1 : wrap64 (a - (a.tmod b + b)) = a - (a.tmod b + b) := wrap_id (by unfold I64; omega)
      have w2 : wrap64 (a.tmod b + b) = a.tmod b + b := wrap_id (by unfold I64; omega)
      rw [hm, w1, show a - (a - (a.tmod b + b)) = a.tmod b + b by omega, w2]
    · rw [if_pos hc, wrap_id (by unfold I64; omega)]; omega
  · have hor : a.tmod b = 0 ∨ (a.tmod b < 0 ↔ b < 0) := by
      by_cases h0 : a.tmod b = 0
      · exact .inl h0
      · exact .inr (Decidable.byContradiction fun hn => hadj ⟨h0, hn⟩)
    obtain ⟨e1, e2⟩ := hsm hor
    rw [e1, e2]
    have hc : ¬ (a.tmod b != 0 && (decide (a < 0) != decide (b < 0))) = true := by
      simp only [Bool.and_eq_true, bne_iff_ne, ne_eq, decide_eq_decide]
      rintro ⟨h0, h1⟩
      exact hadj ⟨h0, by omega⟩
    refine ⟨_, _, cel_of (by unfold I64; omega), cel_of (by unfold I64; omega), rfl, rfl, ?_, wrap_id (by unfold I64; omega), by rw [if_neg hc]⟩
    have w1 : wrap64 (a - a.tmod b) = a - a.tmod b := wrap_id (by unfold I64; omega)
    have w2 : wrap64 (a.tmod b) = a.tmod b := wrap_id (by unfold I64; omega)
    rw [show a.tdiv b * b = a - a.tmod b by omega, w1, show a - (a - a.tmod b) = a.tmod b by omega, w2]
theorem V_cell (n : Int) (h : I64 n) : V (lo n) (hi n) = n := by unfold V U lo hi wrap64; unfold I64 at h; omega
set_option maxHeartbeats 8000000 in
set_option maxRecDepth 100000 in
theorem walk (a0 : Int) (w0 : (Lit.int .i32 a0).wf = true) (a1 : Int) (w1 : (Lit.int .i32 a1).wf = true) (w : World) :
    Calls Try.prog 9 #[.int .i32 a0, .int .i32 a1] w fun e w' => e = .returned (.bool true) ∧ Grown w w' := by
  suffices hsuf : Calls Try.prog 9 #[.int .i32 a0, .int .i32 a1] w fun e w' => e = .returned (.bool true) ∧ Ext w w' from hsuf.mono fun e w' ⟨he, hx⟩ => ⟨he, hx.grown⟩
  have k0 := i32_bd w0
  have k1 := i32_bd w1
  have h0 : I64 a0 := by unfold I64; omega
  have h1 : I64 a1 := by unfold I64; omega
  have hX := Ext.refl w
  have hm := cells_mul a0 a1 k0 k1
  have cX := Lib.hid (fun W => of_calls W a0 h0 W (Ext.refl W))
  have cY := Lib.hid (fun W => of_calls W a1 h1 W (Ext.refl W))
  have cS := Lib.hid (fun W => of_calls W (a0 + a1) (by unfold I64; omega) W (Ext.refl W))
  have cM := Lib.hid (fun W => of_calls W (a0 * a1) (by unfold I64; omega) W (Ext.refl W))
  have cT := Lib.hid (fun W => of_calls W (2 * a0) (by unfold I64; omega) W (Ext.refl W))
  have cN := Lib.hid (fun W => of_calls W (-a0) (by unfold I64; omega) W (Ext.refl W))
  have cAdd := Lib.hid (fun W => add_mk a0 a1 W)
  have cMul := Lib.hid (fun W => mul_calls W a0 a1 h0 h1 W (Ext.refl W))
  have hx := fun W => twice_calls W (lo a0) (hi a0) (lo_i64 _) (hi_i64 _) W (Ext.refl W)
  rw [V_cell a0 h0] at hx
  have cTw := Lib.hid hx
  clear hx
  have hx := fun W => half_calls W (lo (2 * a0)) (hi (2 * a0)) (lo_i64 _) (hi_i64 _) W (Ext.refl W)
  rw [V_cell (2 * a0) (by unfold I64; omega), show 2 * a0 / 2 = a0 by omega] at hx
  have cHf := Lib.hid hx
  clear hx
  have cNg := Lib.hid (fun W => neg_mk a0 W)
  have hx := fun W => trunc_calls W (lo a0) (hi a0) a1 (lo_i64 _) (hi_i64 _) h1 W (Ext.refl W)
  rw [V_cell a0 h0] at hx
  have cTr := Lib.hid hx
  clear hx
  have hx := fun W => floor_calls W (lo a0) (hi a0) a1 (lo_i64 _) (hi_i64 _) h1 W (Ext.refl W)
  rw [V_cell a0 h0] at hx
  have cFl := Lib.hid hx
  clear hx
  have eM : wrap64 (a0 * a1) = a0 * a1 := wrap_id (by unfold I64; omega)
  obtain ⟨M, hM⟩ : ∃ m, m = a0 * a1 := ⟨_, rfl⟩
  rw [← hM] at cM cMul eM
  rw [hM] at eM
  have eM2 : wrap64 (a0 * a1) = M := by rw [eM, hM]
  clear hm eM hM h0 w0 w1
  generalize lo a0 = x0 at *
  generalize hi a0 = x1 at *
  generalize lo a1 = y0 at *
  generalize hi a1 = y1 at *
  generalize lo (a0 + a1) = s0 at *
  generalize hi (a0 + a1) = s1 at *
  generalize lo M = m0 at *
  generalize hi M = m1 at *
  generalize lo (2 * a0) = t0 at *
  generalize hi (2 * a0) = t1 at *
  generalize lo (-a0) = n0 at *
  generalize hi (-a0) = n1 at *
  obtain ⟨k2, k3⟩ := k0
  obtain ⟨k4, k5⟩ := k1
  by_cases hz : a1 = 0
  · have hz2 : (a1 == 0) = true := by simpa using hz
    rw [hz2, okR_zero, okR_zero, okE_zero] at cTr
    clear cFl hz
    go_enter Try.func9, Try.ntmps9
    go_wp2_with fail
    refine (shown_calls _ _ (Ext.refl _)).mono ?_
    rintro e y0 ⟨rfl, hx⟩
    replace hX := hX.trans hx
    clear hx
    go_wp2_with fail
    refine (cX.out _).mono ?_
    rintro e y1 ⟨rfl, hx⟩
    replace hX := hX.trans hx
    clear hx
    go_wp2_with fail
    refine (cY.out _).mono ?_
    rintro e y2 ⟨rfl, hx⟩
    replace hX := hX.trans hx
    clear hx
    go_wp2_with fail
    refine (cAdd.out _).mono ?_
    rintro e y3 ⟨rfl, hx⟩
    replace hX := hX.trans hx
    clear hx
    go_wp2_with fail
    refine (cS.out _).mono ?_
    rintro e y4 ⟨rfl, hx⟩
    replace hX := hX.trans hx
    clear hx
    go_wp2_with fail
    refine (cMul.out _).mono ?_
    rintro e y5 ⟨rfl, hx⟩
    replace hX := hX.trans hx
    clear hx
    go_wp2_with fail
    refine (cM.out _).mono ?_
    rintro e y6 ⟨rfl, hx⟩
    replace hX := hX.trans hx
    clear hx
    go_wp2_with fail
    refine (cX.out _).mono ?_
    rintro e y7 ⟨rfl, hx⟩
    replace hX := hX.trans hx
    clear hx
    go_wp2_with fail
    refine (cTw.out _).mono ?_
    rintro e y8 ⟨rfl, hx⟩
    replace hX := hX.trans hx
    clear hx
    go_wp2_with fail
    refine (cT.out _).mono ?_
    rintro e y9 ⟨rfl, hx⟩
    replace hX := hX.trans hx
    clear hx
    go_wp2_with fail
    refine (cT.out _).mono ?_
    rintro e y10 ⟨rfl, hx⟩
    replace hX := hX.trans hx
    clear hx
    go_wp2_with fail
    refine (cHf.out _).mono ?_
    rintro e y11 ⟨rfl, hx⟩
    replace hX := hX.trans hx
    clear hx
    go_wp2_with fail
    refine (cX.out _).mono ?_
    rintro e y12 ⟨rfl, hx⟩
    replace hX := hX.trans hx
    clear hx
    go_wp2_with fail
    refine (cX.out _).mono ?_
    rintro e y13 ⟨rfl, hx⟩
    replace hX := hX.trans hx
    clear hx
    go_wp2_with fail
    refine (cNg.out _).mono ?_
    rintro e y14 ⟨rfl, hx⟩
    replace hX := hX.trans hx
    clear hx
    go_wp2_with fail
    refine (cN.out _).mono ?_
    rintro e y15 ⟨rfl, hx⟩
    replace hX := hX.trans hx
    clear hx
    go_wp2_with fail
    refine (cX.out _).mono ?_
    rintro e y16 ⟨rfl, hx⟩
    replace hX := hX.trans hx
    clear hx
    go_wp2_with fail
    refine (cTr.out _).mono ?_
    rintro e y17 ⟨rfl, hx⟩
    replace hX := hX.trans hx
    clear hx
    go_wp2_with fail
    go_ret
    exact ⟨rfl, hX⟩
  have hz2 : (a1 == 0) = false := by simpa using hz
  obtain ⟨D, P, f1, f2, f3, f4, f5, f6⟩ := cells_down a0 a1 ⟨k2, k3⟩ ⟨k4, k5⟩ hz
  rw [hz2, f1, okR_near, okR_near, okE_near] at cTr
  rw [hz2, f2, f3, okR_near, okR_near, okE_near] at cFl
  generalize FR a0 a1 = G at *
  obtain ⟨Q, hQ⟩ : ∃ q, a0.tdiv a1 = q := ⟨_, rfl⟩
  obtain ⟨R, hR⟩ : ∃ q, a0.tmod a1 = q := ⟨_, rfl⟩
  rw [hQ, hR] at cTr f6
  obtain ⟨b0, hb0⟩ : ∃ b, decide (a0 < 0) = b := ⟨_, rfl⟩
  obtain ⟨b1, hb1⟩ : ∃ b, decide (a1 < 0) = b := ⟨_, rfl⟩
  rw [hb0, hb1] at f6
  have hz3 : ¬ a1 = 0 := hz
  obtain ⟨f7, f8⟩ := f6
  clear f1 f2 f3 hz
  have HF := Lib.hid f8
  clear f8
  go_enter Try.func9, Try.ntmps9
  go_wp2_with fail
  refine (shown_calls _ _ (Ext.refl _)).mono ?_
  rintro e y0 ⟨rfl, hx⟩
  replace hX := hX.trans hx
  clear hx
  go_wp2_with fail
  refine (cX.out _).mono ?_
  rintro e y1 ⟨rfl, hx⟩
  replace hX := hX.trans hx
  clear hx
  go_wp2_with fail
  refine (cY.out _).mono ?_
  rintro e y2 ⟨rfl, hx⟩
  replace hX := hX.trans hx
  clear hx
  go_wp2_with fail
  refine (cAdd.out _).mono ?_
  rintro e y3 ⟨rfl, hx⟩
  replace hX := hX.trans hx
  clear hx
  go_wp2_with fail
  refine (cS.out _).mono ?_
  rintro e y4 ⟨rfl, hx⟩
  replace hX := hX.trans hx
  clear hx
  go_wp2_with fail
  refine (cMul.out _).mono ?_
  rintro e y5 ⟨rfl, hx⟩
  replace hX := hX.trans hx
  clear hx
  go_wp2_with fail
  refine (cM.out _).mono ?_
  rintro e y6 ⟨rfl, hx⟩
  replace hX := hX.trans hx
  clear hx
  go_wp2_with fail
  refine (cX.out _).mono ?_
  rintro e y7 ⟨rfl, hx⟩
  replace hX := hX.trans hx
  clear hx
  go_wp2_with fail
  refine (cTw.out _).mono ?_
  rintro e y8 ⟨rfl, hx⟩
  replace hX := hX.trans hx
  clear hx
  go_wp2_with fail
  refine (cT.out _).mono ?_
  rintro e y9 ⟨rfl, hx⟩
  replace hX := hX.trans hx
  clear hx
  go_wp2_with fail
  refine (cT.out _).mono ?_
  rintro e y10 ⟨rfl, hx⟩
  replace hX := hX.trans hx
  clear hx
  go_wp2_with fail
  refine (cHf.out _).mono ?_
  rintro e y11 ⟨rfl, hx⟩
  replace hX := hX.trans hx
  clear hx
  go_wp2_with fail
  refine (cX.out _).mono ?_
  rintro e y12 ⟨rfl, hx⟩
  replace hX := hX.trans hx
  clear hx
  go_wp2_with fail
  refine (cX.out _).mono ?_
  rintro e y13 ⟨rfl, hx⟩
  replace hX := hX.trans hx
  clear hx
  go_wp2_with fail
  refine (cNg.out _).mono ?_
  rintro e y14 ⟨rfl, hx⟩
  replace hX := hX.trans hx
  clear hx
  go_wp2_with fail
  refine (cN.out _).mono ?_
  rintro e y15 ⟨rfl, hx⟩
  replace hX := hX.trans hx
  clear hx
  go_wp2_with fail
  refine (cX.out _).mono ?_
  rintro e y16 ⟨rfl, hx⟩
  replace hX := hX.trans hx
  clear hx
  go_wp2_with fail
  refine (cTr.out _).mono ?_
  rintro e y17 ⟨rfl, hx⟩
  replace hX := hX.trans hx
  clear hx
  go_wp2_with fail
  refine (cX.out _).mono ?_
  rintro e y18 ⟨rfl, hx⟩
  replace hX := hX.trans hx
  clear hx
  go_wp2_with fail
  refine (cFl.out _).mono ?_
  rintro e y99 ⟨rfl, hx⟩
  have hE := hX.trans hx
  clear hX hx cFl
  have HF2 := HF.out
  clear HF
  by_cases hr : R = 0
  · have r1 : (R != 0) = false := by simpa using hr
    have hQD : Q = D := by simpa [r1] using HF2
    subst hQD
    clear hr HF2
    go_wp2_with fail
    go_ret
    exact ⟨rfl, hE⟩
  · have r1 : (R != 0) = true := by simpa using hr
    rw [r1] at HF2
    cases b0 <;> cases b1
    · have hQD : Q = D := by simpa using HF2
      subst hQD
      clear HF2
      go_wp2_with fail
      go_ret
      exact ⟨rfl, hE⟩
    · have hQD : wrap64 (Q - 1) = D := by simpa using HF2
      clear HF2
      go_wp2_with fail
      go_ret
      exact ⟨rfl, hE⟩
    · have hQD : wrap64 (Q - 1) = D := by simpa using HF2
      clear HF2
      go_wp2_with fail
      go_ret
      exact ⟨rfl, hE⟩
    · have hQD : Q = D := by simpa using HF2
      subst hQD
      clear HF2
      go_wp2_with fail
      go_ret
      exact ⟨rfl, hE⟩

set_option maxRecDepth 100000 in
theorem lifted (os : Os) (started : os.Started) (H : Type) (enc : TypeId × Value → H) :
    ReturnsInHanded {} Try.checked os 9 .any (Rows.pairCellsSpec.pre6 enc Try.prog Try.f9 Rows.pairCellsRow.domain false) (Rows.pairCellsSpec.post enc Try.prog Try.f9 false true false false) := by
  refine returnsInHanded_of_change (C := Try.checked) own started (by kernel_rfl) Try.func9
    (ChangeSpec.witness6 (enc := enc) (C := Try.checked) false ⟨#[], #[.int .i32 0, .int .i32 0], []⟩ 8 (by kernel_rfl) (by kernel_rfl) (by kernel_rfl) (by kernel_rfl)) ?_
  intro W base args ds gs before hval0 hW hcnd _
  have hval : ∀ (j : Nat) t v, Try.f9.params[j]? = some t → args[j]? = some v → Value.okWide Try.prog W .any base t v := hval0
  have hW' := hW
  obtain ⟨p, q, hA0, hV, rfl, hfz, hnd⟩ := hW
  have hA : DataW.TrodAll enc Try.prog W 0 (fun _ => true) true Try.f9.params.toList args.toList ds p := hA0
  rw [Try.params9] at hA hval
  obtain ⟨v0, vs0, d0, ds0, p0, q0, hargs, rfl, rfl, h0, r0⟩ := trodAll_cons hA
  obtain ⟨v1, vs1, d1, ds1, p1, q1, rfl, rfl, rfl, h1, r1⟩ := trodAll_cons r0
  obtain ⟨rfl, rfl, rfl⟩ := trodAll_nil r1
  obtain rfl : args = #[v0, v1] := by cases args; simp_all
  obtain ⟨rfl, rfl⟩ := trodVars_none hV
  obtain ⟨a0, rfl, rfl, rfl, w0⟩ := open_int Try.underlying21 (hval 0 21 v0 rfl rfl) h0
  obtain ⟨a1, rfl, rfl, rfl, w1⟩ := open_int Try.underlying21 (hval 1 21 v1 rfl rfl) h1
  clear hA0 hval0
  simp only [List.append_nil] at hW'
  refine (walk a0 w0 a1 w1 W).mono fun e W' ⟨he, hg⟩ => ?_
  subst he
  exact ⟨_, rfl, post_of_same (pa := []) (pv := []) hW' (fun _ _ _ => (trodAll_cons_mk (shut_bool Try.underlying4 _) trodAll_mk0)) (fun sp _ => (trodAll_cons_mk (shut_int Try.underlying21 w0) (trodAll_cons_mk (shut_int Try.underlying21 w1) trodAll_mk0))) (fun _ _ => rfl) rfl
    (hg.frame _) hg.2.1 (ok_one (by kernel_rfl) rfl (okWide_bool_mk Try.underlying4 _))⟩

theorem over : Rows.pairCellsRow.holds Try.pinned (OpenSpec.ofChange Rows.pairCellsSpec) :=
  OpenClaim.holds_of_wide 9 Try.f9 rfl rfl rfl rfl rfl rfl rfl ⟨rfl, rfl, rfl, rfl, rfl⟩ rfl rfl rfl rfl rfl (by kernel_rfl) Try.func9 (by kernel_rfl)
    (of_decide_eq_true (by kernel_rfl)) (by unfold Func.isWrapper; first | (rw [if_pos (by decide +kernel)]; kernel_rfl) | (rw [if_neg (by decide +kernel)]; exact ⟨rfl, rfl⟩))
    (fun os started H enc _ => lifted os started H enc)

/-- THE STATEMENT -/
theorem proved : Rows.PairCellsSaid :=
  over
#print axioms proved
end Go.Proofs.Ytfehpfcpeiopiaa.pairCells
