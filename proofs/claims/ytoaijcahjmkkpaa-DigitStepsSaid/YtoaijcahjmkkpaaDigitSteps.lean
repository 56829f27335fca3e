/- DigitSteps: for all arguments given, the call returns true and the arguments read as before. No condition. -/
import Derived.Test.YtoaijcahjmkkpaaRows
import Derived.Test.YtoaijcahjmkkpaaC3Num
import Derived.Test.YtoaijcahjmkkpaaLawKit
import Derived.WalkKit
import Derived.ProofKit
import Derived.OpenShut
import Derived.ChangeMaps5
namespace Go.Proofs.Ytoaijcahjmkkpaa.digitSteps
open Go.ChangeShapes Go.WideShapes Go.ChangeAt Go.RowKit Go.ChangeMaps
set_option linter.unusedVariables false

theorem own : ownKnob Try.prog.godebug = none := by kernel_rfl

theorem letter_byte (S : ByteArray) (l m : List UInt8) (c : UInt8) (j : Nat) (hS : S.data.toList = l) (h : l.take (j + 1) = m ++ [c]) (hm : m.length = j) (hj : j < S.size) : S[j] = c := by
  have h1 := at_list S j hj
  rw [hS] at h1
  have h2 : (l.take (j + 1))[j]? = l[j]? := List.getElem?_take_of_lt (Nat.lt_succ_self j)
  rw [← h2, h, List.getElem?_append_right (by omega), hm, Nat.sub_self] at h1
  exact (Option.some.inj h1).symm
/-- k letters of the text of P are left, and they are N's. -/
def Left (B P k N : Nat) : Prop := if k = 0 then N = 0 else (text B P).take k = text B N
theorem left_last (B P j N : Nat) (h2 : 2 ≤ B) (hN : N < two128) (h : Left B P (j + 1) N) (hj : j + 1 ≤ (text B P).length) : ∃ m, (text B P).take (j + 1) = m ++ [letter (N % B)] ∧ m.length = j := by
  unfold Left at h
  rw [if_neg (Nat.succ_ne_zero j)] at h
  have hl : (text B N).length = j + 1 := by rw [← h, List.length_take]; omega
  rw [h]
  rw [text_step B N h2 hN] at hl ⊢
  split at hl
  · next h0 =>
    rw [if_pos h0]
    exact ⟨[], rfl, by simp at hl; simp; omega⟩
  · next h0 =>
    rw [if_neg h0]
    exact ⟨_, rfl, by rw [List.length_append, List.length_singleton] at hl; omega⟩
theorem left_next (B P j N : Nat) (h2 : 2 ≤ B) (hN : N < two128) (h : Left B P (j + 1) N) (hj : j + 1 ≤ (text B P).length) : Left B P j (N / B) := by
  unfold Left at h ⊢
  rw [if_neg (Nat.succ_ne_zero j)] at h
  have hl : (text B N).length = j + 1 := by rw [← h, List.length_take]; omega
  rw [text_step B N h2 hN] at hl h
  split at hl
  · next h0 =>
    have : j = 0 := by simpa using hl.symm
    rw [if_pos this]
    exact h0
  · next h0 =>
    rw [if_neg h0] at h
    have hl2 : (text B (N / B)).length = j := by rw [List.length_append, List.length_singleton] at hl; omega
    have hne : j ≠ 0 := by
      intro e
      rw [e] at hl2
      exact text_ne B (N / B) (List.eq_nil_of_length_eq_zero hl2)
    rw [if_neg hne]
    have e := congrArg (List.take j) h
    rw [List.take_take, Nat.min_eq_left (Nat.le_succ j)] at e
    rw [e, ← hl2, List.take_left]
set_option maxHeartbeats 8000000 in
set_option maxRecDepth 100000 in
theorem walk (a0 b0 : Int) (w0 : (Lit.int .i64 a0).wf = true) (v0 : (Lit.int .i64 b0).wf = true) (a1 : Int) (w1 : (Lit.int .u8 a1).wf = true) (w : World) :
    Calls Try.prog 9 #[.agg #[.int .i64 a0, .int .i64 b0], .int .u8 a1] w fun e w' => e = .returned (.bool true) ∧ Grown w w' := by
  suffices hsuf : Calls Try.prog 9 #[.agg #[.int .i64 a0, .int .i64 b0], .int .u8 a1] w fun e w' => e = .returned (.bool true) ∧ Ext w w' from hsuf.mono fun e w' ⟨he, hx⟩ => ⟨he, hx.grown⟩
  obtain ⟨c, rfl⟩ := u8_of_wf w1
  obtain ⟨B, hB, h2, h36⟩ := byte_base c
  have ha := i64_of_wf w0
  have hb := i64_of_wf v0
  obtain ⟨P, hP⟩ := W_nat' a0 b0
  obtain ⟨e1, e2, hl⟩ := W_at a0 b0 ha hb P hP
  have cT := Lib.hid (fun W => text_calls a0 b0 (B : Int) ha hb P B hP rfl h2 h36 W)
  have hlen := text_length B P h2 hl
  have cS := Lib.hid (fun (N : Nat) (hN : N < two128) W => step_calls (lo (N : Int)) (hi (N : Int)) (B : Int) (lo_i64 _) (hi_i64 _) N B (W_of N hN) rfl h2 h36 W)
  have cV := Lib.hid (fun (x : UInt8) W => value_calls x (B : Int) W)
  have cC := Lib.hid char_in
  have hzs := bytes_size (text B P)
  obtain ⟨S, hS⟩ : ∃ S, S = bytes (text B P) := ⟨_, rfl⟩
  rw [← hS] at cT hzs
  have hSl : S.data.toList = text B P := by rw [hS, bytes_list]
  have HSl := Lib.hid hSl
  have HZ := Lib.hid hzs
  have hs1 : (1 : Int) ≤ (S.size : Int) := by omega
  have hs2 : (S.size : Int) ≤ 128 := by omega
  have hs3 : (0 : Int) < (S.size : Int) := by omega
  have hs4 : 0 < S.size := by omega
  have HB := Lib.hid (And.intro h2 h36)
  have HE := Lib.hid (And.intro e1 e2)
  have HL := Lib.hid hl
  clear hS hSl hzs h2 h36 e1 e2 hl hlen ha hb hP w0 v0 w1
  have hc0 : (0 : Int) ≤ (c.toNat : Int) := by omega
  have hc1 : (c.toNat : Int) ≤ 255 := by have := c.toNat_lt; omega
  go_enter Try.func9, Try.ntmps9
  try simp only [List.append]
  go_wp2_with fail
  have o0 := Own.last (X := w) (x := Value.int .i64 a0) (y := Value.int .i64 b0) (t := 24)
  have hX := (Ext.refl w).cells #[.int .i64 a0, .int .i64 b0] 24
  refine (shown3_calls _).mono ?_
  rintro e y0 ⟨rfl, hx⟩
  replace o0 := o0.ext hx
  replace hX := hX.trans hx
  clear hx
  have o0c0 := o0.c0
  have o0c1 := o0.c1
  go_wp2_with fail
  refine (cT.out _).mono ?_
  rintro e y1 ⟨rfl, hx⟩
  clear o0c0 o0c1
  replace o0 := o0.ext hx
  replace hX := hX.trans hx
  clear hx
  have o0c0 := o0.c0
  have o0c1 := o0.c1
  go_wp2_with fail
  have o1 := Own.last (X := y1) (x := Value.int .i64 a0) (y := Value.int .i64 b0) (t := 24)
  have hlt := hX.1.size
  replace hX := hX.cells #[.int .i64 a0, .int .i64 b0] 24
  go_loopw [9] (fun i wr => ∃ (N k : Nat) (m : Int), i = .int .i64 m ∧ RowKit.Hid (m = (k : Int) - 1) ∧ RowKit.Hid (N < two128 ∧ k ≤ S.size ∧ Left B P k N) ∧ Own wr y1.heap.size (.int .i64 (lo (N : Int))) (.int .i64 (hi (N : Int))) ∧ Ext w wr) (fun i _ => (intOf i + 1).toNat)
  case atStart =>
    refine ⟨P, S.size, _, rfl, Lib.hid rfl, Lib.hid ⟨HL.out, Nat.le_refl _, ?_⟩, ?_, hX⟩
    · unfold Left
      rw [if_neg (by omega), HZ.out, List.take_length]
    · rw [← HE.out.1, ← HE.out.2]
      exact o1
  case round =>
    obtain ⟨N, k, m, rfl, hm, hT, o, hE⟩ := hrel
    clear o0 o1 hX o0c0 o0c1
    cases k with
    | zero =>
      obtain rfl : m = -1 := by have := hm.out; omega
      have hN0 : N = 0 := by have := hT.out.2.2; unfold Left at this; rwa [if_pos rfl] at this
      subst hN0
      rw [show lo ((0 : Nat) : Int) = 0 by decide +kernel, show hi ((0 : Nat) : Int) = 0 by decide +kernel] at o
      have c0 := o.c0
      have c1 := o.c1
      go_wp2_with fail
      go_ret
      exact ⟨rfl, hE⟩
    | succ j =>
      obtain rfl : m = (j : Int) := by have := hm.out; omega
      have hjS : j < S.size := by have := hT.out.2.1; omega
      obtain ⟨q, hq1, hq2⟩ := left_last B P j N HB.out.1 hT.out.1 hT.out.2.2 (by have := hT.out.2.1; rw [← HZ.out]; exact this)
      have hby := letter_byte S _ q _ j HSl.out hq1 hq2 hjS
      have hnx := left_next B P j N HB.out.1 hT.out.1 hT.out.2.2 (by have := hT.out.2.1; rw [← HZ.out]; exact this)
      have hst := cS.out N hT.out.1
      have hd : N % B < 36 := Nat.lt_of_lt_of_le (Nat.mod_lt N (by have := HB.out.1; omega)) HB.out.2
      have hvl := cV.out (letter (N % B))
      have hvv := value_letter (Nat.mod_lt N (show 0 < B by have := HB.out.1; omega)) HB.out.2
      rw [Int.toNat_natCast, show vN (letter (N % B)) B = N % B by unfold vN; rw [hvv]; rfl, show vB (letter (N % B)) B = true by unfold vB; rw [hvv]; rfl] at hvl
      have hch := cC.out (N % B) hd
      have hM : N / B < two128 := Nat.lt_of_le_of_lt (Nat.div_le_self _ _) hT.out.1
      obtain ⟨u, hu⟩ : ∃ u, u = letter (N % B) := ⟨_, rfl⟩
      obtain ⟨d, hdd⟩ : ∃ u, u = N % B := ⟨_, rfl⟩
      obtain ⟨M, hMM⟩ : ∃ u, u = N / B := ⟨_, rfl⟩
      rw [← hu, ← hdd] at hvl hch
      rw [← hu, ← hMM] at hst
      rw [← hu] at hby
      rw [← hMM] at hnx hM
      obtain ⟨m0, hm0⟩ : ∃ m, m = lo (M : Int) := ⟨_, rfl⟩
      obtain ⟨m1, hm1⟩ : ∃ m, m = hi (M : Int) := ⟨_, rfl⟩
      rw [← hm0, ← hm1] at hst
      have HST := Lib.hid hst
      have HV := Lib.hid hvl
      have HC := Lib.hid hch
      have HM0 := Lib.hid hm0
      have HM1 := Lib.hid hm1
      have HNX := Lib.hid hnx
      have HMl := Lib.hid hM
      have hbn : S[j].toNat = u.toNat := by rw [hby]
      have hj0 : (0 : Int) ≤ (j : Int) := by omega
      have hj1 : (j : Int) < (S.size : Int) := by omega
      have HQ1 := Lib.hid hq1
      clear hst hvl hch hm0 hm1 hnx hM hu hdd hMM hby hvv hd hq1 hq2
      have c0 := o.c0
      have c1 := o.c1
      go_wp2_with fail
      refine (HST.out _).mono ?_
      rintro e y3 ⟨rfl, hx⟩
      replace o := (o.ext hx).alloc #[.int .i64 m0, .int .i64 m1] 24
      replace hE := (hE.trans hx).cells #[.int .i64 m0, .int .i64 m1] 24
      clear hx c0 c1
      have o2 := Own.last (X := y3) (x := Value.int .i64 m0) (y := Value.int .i64 m1) (t := 24)
      have c0 := o.c0
      have c1 := o.c1
      have f0 := o.f0
      have f1 := o.f1
      have lt := o.lt
      have o2c0 := o2.c0
      have o2c1 := o2.c1
      go_wp2_with fail
      refine (HV.out _).mono ?_
      rintro e y4 ⟨rfl, rfl⟩
      go_wp2_with fail
      refine (HC.out _).mono ?_
      rintro e y4 ⟨rfl, rfl⟩
      go_wp2_with fail
      go_roundw
      case rel =>
        refine ⟨M, j, _, rfl, Lib.hid rfl, Lib.hid ⟨HMl.out, by omega, HNX.out⟩, ?_, hE.set2 (by omega) _ _⟩
        rw [← HM0.out, ← HM1.out]
        exact o.set _ _
      case measure => simp [intOf]

set_option maxRecDepth 100000 in
theorem lifted (os : Os) (started : os.Started) (H : Type) (enc : TypeId × Value → H) :
    ReturnsInHanded {} Try.checked os 9 .any (Rows.digitStepsSpec.pre6 enc Try.prog Try.f9 Rows.digitStepsRow.domain false) (Rows.digitStepsSpec.post enc Try.prog Try.f9 false true false false) := by
  refine returnsInHanded_of_change (C := Try.checked) own started (by kernel_rfl) Try.func9
    (ChangeSpec.witness6 (enc := enc) (C := Try.checked) false ⟨#[], #[.agg #[.int .i64 0, .int .i64 0], .int .u8 0], []⟩ 8 (by kernel_rfl) (by kernel_rfl) (by kernel_rfl) (by kernel_rfl)) ?_
  intro W base args ds gs before hval0 hW hcnd _
  have hval : ∀ (j : Nat) t v, Try.f9.params[j]? = some t → args[j]? = some v → Value.okWide Try.prog W .any base t v := hval0
  have hW' := hW
  obtain ⟨p, q, hA0, hV, rfl, hfz, hnd⟩ := hW
  have hA : DataW.TrodAll enc Try.prog W 0 (fun _ => true) true Try.f9.params.toList args.toList ds p := hA0
  rw [Try.params9] at hA hval
  obtain ⟨v0, vs0, d0, ds0, p0, q0, hargs, rfl, rfl, h0, r0⟩ := trodAll_cons hA
  obtain ⟨v1, vs1, d1, ds1, p1, q1, rfl, rfl, rfl, h1, r1⟩ := trodAll_cons r0
  obtain ⟨rfl, rfl, rfl⟩ := trodAll_nil r1
  obtain rfl : args = #[v0, v1] := by cases args; simp_all
  obtain ⟨rfl, rfl⟩ := trodVars_none hV
  obtain ⟨a0, b0, rfl, rfl, rfl, w0, v0'⟩ := open_pair (hval 0 24 v0 rfl rfl) h0
  obtain ⟨a1, rfl, rfl, rfl, w1⟩ := open_int Try.underlying5 (hval 1 5 v1 rfl rfl) h1
  clear hA0 hval0
  simp only [List.append_nil] at hW'
  refine (walk a0 b0 w0 v0' a1 w1 W).mono fun e W' ⟨he, hg⟩ => ?_
  subst he
  exact ⟨_, rfl, post_of_same (pa := []) (pv := []) hW' (fun _ _ _ => (trodAll_cons_mk (shut_bool Try.underlying4 _) trodAll_mk0)) (fun sp _ => (trodAll_cons_mk (shut_pair w0 v0') (trodAll_cons_mk (shut_int Try.underlying5 w1) trodAll_mk0))) (fun _ _ => rfl) rfl
    (hg.frame _) hg.2.1 (ok_one (by kernel_rfl) rfl (okWide_bool_mk Try.underlying4 _))⟩

theorem over : Rows.digitStepsRow.holds Try.pinned (OpenSpec.ofChange Rows.digitStepsSpec) :=
  OpenClaim.holds_of_wide 9 Try.f9 rfl rfl rfl rfl rfl rfl rfl ⟨rfl, rfl, rfl, rfl, rfl⟩ rfl rfl rfl rfl rfl (by kernel_rfl) Try.func9 (by kernel_rfl)
    (of_decide_eq_true (by kernel_rfl)) (by unfold Func.isWrapper; first | (rw [if_pos (by decide +kernel)]; kernel_rfl) | (rw [if_neg (by decide +kernel)]; exact ⟨rfl, rfl⟩))
    (fun os started H enc _ => lifted os started H enc)

/-- THE STATEMENT -/
theorem proved : Rows.DigitStepsSaid :=
  over
#print axioms proved
end Go.Proofs.Ytoaijcahjmkkpaa.digitSteps
