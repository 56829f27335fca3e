/- DigitBack: for all arguments given, the call returns true and the arguments read as before. No condition. -/
import Derived.Test.YtoaijcahjmkkpaaRows
import Derived.Test.YtoaijcahjmkkpaaC3Num
import Derived.Test.YtoaijcahjmkkpaaLawKit
import Derived.WalkKit
import Derived.ProofKit
import Derived.OpenShut
import Derived.ChangeMaps5
namespace Go.Proofs.Ytoaijcahjmkkpaa.digitBack
open Go.ChangeShapes Go.WideShapes Go.ChangeAt Go.RowKit Go.ChangeMaps
set_option linter.unusedVariables false

theorem own : ownKnob Try.prog.godebug = none := by kernel_rfl

set_option maxHeartbeats 8000000 in
set_option maxRecDepth 100000 in
theorem walk (a0 b0 : Int) (w0 : (Lit.int .i64 a0).wf = true) (v0 : (Lit.int .i64 b0).wf = true) (a1 : Int) (w1 : (Lit.int .u8 a1).wf = true) (w : World) :
    Calls Try.prog 5 #[.agg #[.int .i64 a0, .int .i64 b0], .int .u8 a1] w fun e w' => e = .returned (.bool true) ∧ Grown w w' := by
  suffices hsuf : Calls Try.prog 5 #[.agg #[.int .i64 a0, .int .i64 b0], .int .u8 a1] w fun e w' => e = .returned (.bool true) ∧ Ext w w' from hsuf.mono fun e w' ⟨he, hx⟩ => ⟨he, hx.grown⟩
  obtain ⟨c, rfl⟩ := u8_of_wf w1
  obtain ⟨B, hB, h2, h36⟩ := byte_base c
  have ha := i64_of_wf w0
  have hb := i64_of_wf v0
  obtain ⟨P, hP⟩ := W_nat' a0 b0
  obtain ⟨P1, hP1⟩ := W_nat' a0 0
  obtain ⟨e1, e2, hl⟩ := W_at a0 b0 ha hb P hP
  have z0 : I64 0 := by unfold I64; omega
  obtain ⟨f1, f2, hl1⟩ := W_at a0 0 ha z0 P1 hP1
  have cT := fun W => text_calls a0 b0 (B : Int) ha hb P B hP rfl h2 h36 W
  have cT1 := fun W => text_calls a0 0 (B : Int) ha z0 P1 B hP1 rfl h2 h36 W
  have cS := fun W => signed_calls a0 b0 (B : Int) ha hb P B hP rfl h2 h36 W
  have hlen := text_length B P h2 hl
  have hlen1 := text_length B P1 h2 hl1
  have hslen := signed_length B P a0 b0 ha hb hP h2
  have hhd := text_head B P h2 h36 hl
  have cA := fun W => accept_calls 0 0 (B : Int) z0 z0 (bytes (text B P)) (by rw [bytes_size]; omega) 0 B (by decide +kernel) rfl h2 h36 W
  rw [bytes_list, acc_text B P h2 h36 hl, ← e1, ← e2] at cA
  have cN := fun W => number_calls (bytes (signed B P (V a0 b0) ++ [46])) (by rw [bytes_size, List.length_append, List.length_singleton]; omega) B h2 h36 W
  rw [bytes_list, num_signed B P a0 b0 ha hb hP h2 h36] at cN
  have cN1 := fun W => number_calls (bytes (text B P1)) (by rw [bytes_size]; omega) B h2 h36 W
  rw [bytes_list, num_text B P1 h2 h36 hl1, ← f1] at cN1
  have had := add_point (signed B P (V a0 b0)) (by omega)
  obtain ⟨S, hS⟩ : ∃ S, S = bytes (text B P) := ⟨_, rfl⟩
  have hS1 : S.size = (text B P).length := by rw [hS, bytes_size]
  have hS2 : (1 : Int) ≤ (S.size : Int) := by omega
  have hS3 : (S.size : Int) ≤ 130 := by omega
  have hS4 : (0 : Int) < (S.size : Int) := by omega
  have hhd2 : ¬ S.size = 1 → ∃ h : 0 < S.size, ((S[0].toNat : Int) == 48) = false := by
    intro hne
    refine ⟨by omega, ?_⟩
    rcases hhd with h | h
    · omega
    · exact head_byte S _ (by rw [hS, bytes_list]) (by omega) h
  rw [← hS] at cT cA
  obtain ⟨S1, hSS1⟩ : ∃ S, S = bytes (text B P1) := ⟨_, rfl⟩
  rw [← hSS1] at cT1 cN1
  obtain ⟨G, hG⟩ : ∃ S, S = bytes (signed B P (V a0 b0) ++ [46]) := ⟨_, rfl⟩
  rw [← hG] at cN had
  obtain ⟨G0, hG0⟩ : ∃ S, S = bytes (signed B P (V a0 b0)) := ⟨_, rfl⟩
  rw [← hG0] at cS had
  have CT := Lib.hid cT
  have CT1 := Lib.hid cT1
  have CS := Lib.hid cS
  have CA := Lib.hid cA
  have CN := Lib.hid cN
  have CN1 := Lib.hid cN1
  clear cT cT1 cS cA cN cN1 hS hSS1 hG hG0 hhd hslen hlen hlen1 hS1 f1 f2 e1 e2 hP hP1 hl hl1 z0 ha hb h2 h36 w0 v0 w1
  have hc0 : (0 : Int) ≤ (c.toNat : Int) := by omega
  have hc1 : (c.toNat : Int) ≤ 255 := by have := c.toNat_lt; omega
  by_cases hone : S.size = 1
  · have h1 : ((S.size : Int) == 1) = true := by rw [beq_iff_eq]; omega
    clear hhd2 hone
    go_enter Try.func5, Try.ntmps5
    try simp only [List.append]
    go_wp2_with fail
    have o0 := Own.last (X := w) (x := Value.int .i64 a0) (y := Value.int .i64 b0) (t := 24)
    have hX := (Ext.refl w).cells #[.int .i64 a0, .int .i64 b0] 24
    refine (shown3_calls _).mono ?_
    rintro e y0 ⟨rfl, hx⟩
    replace o0 := o0.ext hx
    replace hX := hX.trans hx
    clear hx
    have o0c0 := o0.c0
    have o0c1 := o0.c1
    go_wp2_with fail
    refine (CT.out _).mono ?_
    rintro e y1 ⟨rfl, hx⟩
    clear o0c0 o0c1
    replace o0 := o0.ext hx
    replace hX := hX.trans hx
    clear hx
    go_wp2_with fail
    refine (CA.out _).mono ?_
    rintro e y2 ⟨rfl, hx⟩
    replace o0 := (o0.ext hx).alloc #[.int .i64 a0, .int .i64 b0] 24
    replace hX := (hX.trans hx).cells #[.int .i64 a0, .int .i64 b0] 24
    clear hx
    have o1 := Own.last (X := y2) (x := Value.int .i64 a0) (y := Value.int .i64 b0) (t := 24)
    have o0c0 := o0.c0
    have o0c1 := o0.c1
    go_wp2_with fail
    refine (CS.out _).mono ?_
    rintro e y3 ⟨rfl, hx⟩
    clear o0c0 o0c1
    replace o0 := o0.ext hx
    replace o1 := o1.ext hx
    replace hX := hX.trans hx
    clear hx
    go_wp2_with fail
    refine (CN.out _).mono ?_
    rintro e y4 ⟨rfl, hx⟩
    replace o0 := (o0.ext hx).alloc #[.int .i64 a0, .int .i64 b0] 24
    replace o1 := (o1.ext hx).alloc #[.int .i64 a0, .int .i64 b0] 24
    replace hX := (hX.trans hx).cells #[.int .i64 a0, .int .i64 b0] 24
    clear hx
    have o2 := Own.last (X := y4) (x := Value.int .i64 a0) (y := Value.int .i64 b0) (t := 24)
    have o0c0 := o0.c0
    have o0c1 := o0.c1
    have o3 := (Own.last (X := y4.alloc (.cells #[.int .i64 a0, .int .i64 b0] 24)) (x := Value.int .i64 a0) (y := Value.int .i64 0) (t := 24))
    rw [size_alloc] at o3
    replace o0 := o0.alloc #[.int .i64 a0, .int .i64 0] 24
    replace o1 := o1.alloc #[.int .i64 a0, .int .i64 0] 24
    replace o2 := o2.alloc #[.int .i64 a0, .int .i64 0] 24
    replace hX := hX.cells #[.int .i64 a0, .int .i64 0] 24
    have hlt := o0.lt
    go_wp2_with fail
    refine (CT1.out _).mono ?_
    rintro e y5 ⟨rfl, hx⟩
    clear o0c0 o0c1
    replace o0 := o0.ext hx
    replace o1 := o1.ext hx
    replace o2 := o2.ext hx
    replace o3 := o3.ext hx
    replace hX := hX.trans hx
    clear hx
    go_wp2_with fail
    refine (CN1.out _).mono ?_
    rintro e y6 ⟨rfl, hx⟩
    replace o0 := (o0.ext hx).alloc #[.int .i64 a0, .int .i64 0] 24
    replace o1 := (o1.ext hx).alloc #[.int .i64 a0, .int .i64 0] 24
    replace o2 := (o2.ext hx).alloc #[.int .i64 a0, .int .i64 0] 24
    replace o3 := (o3.ext hx).alloc #[.int .i64 a0, .int .i64 0] 24
    replace hX := (hX.trans hx).cells #[.int .i64 a0, .int .i64 0] 24
    clear hx
    have o4 := Own.last (X := y6) (x := Value.int .i64 a0) (y := Value.int .i64 0) (t := 24)
    have o0c0 := o0.c0
    have o0c1 := o0.c1
    have o1c0 := o1.c0
    have o1c1 := o1.c1
    have o2c0 := o2.c0
    have o2c1 := o2.c1
    have o3c0 := o3.c0
    have o3c1 := o3.c1
    have o4c0 := o4.c0
    have o4c1 := o4.c1
    go_wp2_with fail
    go_ret
    exact ⟨rfl, hX⟩
  · have h1 : ((S.size : Int) == 1) = false := by rw [beq_eq_false_iff_ne]; omega
    obtain ⟨h0, h48⟩ := hhd2 hone
    have h49 : ((S[0].toNat : Int) != 48) = true := by rw [bne_iff_ne]; simpa using h48
    clear hhd2 hone
    go_enter Try.func5, Try.ntmps5
    try simp only [List.append]
    go_wp2_with fail
    have o0 := Own.last (X := w) (x := Value.int .i64 a0) (y := Value.int .i64 b0) (t := 24)
    have hX := (Ext.refl w).cells #[.int .i64 a0, .int .i64 b0] 24
    refine (shown3_calls _).mono ?_
    rintro e y0 ⟨rfl, hx⟩
    replace o0 := o0.ext hx
    replace hX := hX.trans hx
    clear hx
    have o0c0 := o0.c0
    have o0c1 := o0.c1
    go_wp2_with fail
    refine (CT.out _).mono ?_
    rintro e y1 ⟨rfl, hx⟩
    clear o0c0 o0c1
    replace o0 := o0.ext hx
    replace hX := hX.trans hx
    clear hx
    go_wp2_with fail
    refine (CA.out _).mono ?_
    rintro e y2 ⟨rfl, hx⟩
    replace o0 := (o0.ext hx).alloc #[.int .i64 a0, .int .i64 b0] 24
    replace hX := (hX.trans hx).cells #[.int .i64 a0, .int .i64 b0] 24
    clear hx
    have o1 := Own.last (X := y2) (x := Value.int .i64 a0) (y := Value.int .i64 b0) (t := 24)
    have o0c0 := o0.c0
    have o0c1 := o0.c1
    go_wp2_with fail
    refine (CS.out _).mono ?_
    rintro e y3 ⟨rfl, hx⟩
    clear o0c0 o0c1
    replace o0 := o0.ext hx
    replace o1 := o1.ext hx
    replace hX := hX.trans hx
    clear hx
    go_wp2_with fail
    refine (CN.out _).mono ?_
    rintro e y4 ⟨rfl, hx⟩
    replace o0 := (o0.ext hx).alloc #[.int .i64 a0, .int .i64 b0] 24
    replace o1 := (o1.ext hx).alloc #[.int .i64 a0, .int .i64 b0] 24
    replace hX := (hX.trans hx).cells #[.int .i64 a0, .int .i64 b0] 24
    clear hx
    have o2 := Own.last (X := y4) (x := Value.int .i64 a0) (y := Value.int .i64 b0) (t := 24)
    have o0c0 := o0.c0
    have o0c1 := o0.c1
    have o3 := (Own.last (X := y4.alloc (.cells #[.int .i64 a0, .int .i64 b0] 24)) (x := Value.int .i64 a0) (y := Value.int .i64 0) (t := 24))
    rw [size_alloc] at o3
    replace o0 := o0.alloc #[.int .i64 a0, .int .i64 0] 24
    replace o1 := o1.alloc #[.int .i64 a0, .int .i64 0] 24
    replace o2 := o2.alloc #[.int .i64 a0, .int .i64 0] 24
    replace hX := hX.cells #[.int .i64 a0, .int .i64 0] 24
    have hlt := o0.lt
    go_wp2_with fail
    refine (CT1.out _).mono ?_
    rintro e y5 ⟨rfl, hx⟩
    clear o0c0 o0c1
    replace o0 := o0.ext hx
    replace o1 := o1.ext hx
    replace o2 := o2.ext hx
    replace o3 := o3.ext hx
    replace hX := hX.trans hx
    clear hx
    go_wp2_with fail
    refine (CN1.out _).mono ?_
    rintro e y6 ⟨rfl, hx⟩
    replace o0 := (o0.ext hx).alloc #[.int .i64 a0, .int .i64 0] 24
    replace o1 := (o1.ext hx).alloc #[.int .i64 a0, .int .i64 0] 24
    replace o2 := (o2.ext hx).alloc #[.int .i64 a0, .int .i64 0] 24
    replace o3 := (o3.ext hx).alloc #[.int .i64 a0, .int .i64 0] 24
    replace hX := (hX.trans hx).cells #[.int .i64 a0, .int .i64 0] 24
    clear hx
    have o4 := Own.last (X := y6) (x := Value.int .i64 a0) (y := Value.int .i64 0) (t := 24)
    have o0c0 := o0.c0
    have o0c1 := o0.c1
    have o1c0 := o1.c0
    have o1c1 := o1.c1
    have o2c0 := o2.c0
    have o2c1 := o2.c1
    have o3c0 := o3.c0
    have o3c1 := o3.c1
    have o4c0 := o4.c0
    have o4c1 := o4.c1
    go_wp2_with fail
    go_ret
    exact ⟨rfl, hX⟩

set_option maxRecDepth 100000 in
theorem lifted (os : Os) (started : os.Started) (H : Type) (enc : TypeId × Value → H) :
    ReturnsInHanded {} Try.checked os 5 .any (Rows.digitBackSpec.pre6 enc Try.prog Try.f5 Rows.digitBackRow.domain false) (Rows.digitBackSpec.post enc Try.prog Try.f5 false true false false) := by
  refine returnsInHanded_of_change (C := Try.checked) own started (by kernel_rfl) Try.func5
    (ChangeSpec.witness6 (enc := enc) (C := Try.checked) false ⟨#[], #[.agg #[.int .i64 0, .int .i64 0], .int .u8 0], []⟩ 8 (by kernel_rfl) (by kernel_rfl) (by kernel_rfl) (by kernel_rfl)) ?_
  intro W base args ds gs before hval0 hW hcnd _
  have hval : ∀ (j : Nat) t v, Try.f5.params[j]? = some t → args[j]? = some v → Value.okWide Try.prog W .any base t v := hval0
  have hW' := hW
  obtain ⟨p, q, hA0, hV, rfl, hfz, hnd⟩ := hW
  have hA : DataW.TrodAll enc Try.prog W 0 (fun _ => true) true Try.f5.params.toList args.toList ds p := hA0
  rw [Try.params5] at hA hval
  obtain ⟨v0, vs0, d0, ds0, p0, q0, hargs, rfl, rfl, h0, r0⟩ := trodAll_cons hA
  obtain ⟨v1, vs1, d1, ds1, p1, q1, rfl, rfl, rfl, h1, r1⟩ := trodAll_cons r0
  obtain ⟨rfl, rfl, rfl⟩ := trodAll_nil r1
  obtain rfl : args = #[v0, v1] := by cases args; simp_all
  obtain ⟨rfl, rfl⟩ := trodVars_none hV
  obtain ⟨a0, b0, rfl, rfl, rfl, w0, v0'⟩ := open_pair (hval 0 24 v0 rfl rfl) h0
  obtain ⟨a1, rfl, rfl, rfl, w1⟩ := open_int Try.underlying5 (hval 1 5 v1 rfl rfl) h1
  clear hA0 hval0
  simp only [List.append_nil] at hW'
  refine (walk a0 b0 w0 v0' a1 w1 W).mono fun e W' ⟨he, hg⟩ => ?_
  subst he
  exact ⟨_, rfl, post_of_same (pa := []) (pv := []) hW' (fun _ _ _ => (trodAll_cons_mk (shut_bool Try.underlying4 _) trodAll_mk0)) (fun sp _ => (trodAll_cons_mk (shut_pair w0 v0') (trodAll_cons_mk (shut_int Try.underlying5 w1) trodAll_mk0))) (fun _ _ => rfl) rfl
    (hg.frame _) hg.2.1 (ok_one (by kernel_rfl) rfl (okWide_bool_mk Try.underlying4 _))⟩

theorem over : Rows.digitBackRow.holds Try.pinned (OpenSpec.ofChange Rows.digitBackSpec) :=
  OpenClaim.holds_of_wide 5 Try.f5 rfl rfl rfl rfl rfl rfl rfl ⟨rfl, rfl, rfl, rfl, rfl⟩ rfl rfl rfl rfl rfl (by kernel_rfl) Try.func5 (by kernel_rfl)
    (of_decide_eq_true (by kernel_rfl)) (by unfold Func.isWrapper; first | (rw [if_pos (by decide +kernel)]; kernel_rfl) | (rw [if_neg (by decide +kernel)]; exact ⟨rfl, rfl⟩))
    (fun os started H enc _ => lifted os started H enc)

/-- THE STATEMENT -/
theorem proved : Rows.DigitBackSaid :=
  over
#print axioms proved
end Go.Proofs.Ytoaijcahjmkkpaa.digitBack
