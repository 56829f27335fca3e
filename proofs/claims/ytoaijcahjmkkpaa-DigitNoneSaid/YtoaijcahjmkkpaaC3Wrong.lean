/- Layer 3 at a base that is none, and at any base: the program's calls and the document's answers. Condition: cells are integers of 64 bits, texts are of at most 1000000000 bytes. -/
import Derived.Test.YtoaijcahjmkkpaaC3ProgE
namespace Go.Proofs.Ytoaijcahjmkkpaa
open Go.RowKit
set_option linter.unusedVariables false

theorem wrong_dec {b : Int} (h : ¬ (2 ≤ b ∧ b ≤ 36)) : decide (2 ≤ b ∧ b ≤ 36) = false := decide_eq_false h
theorem step_wrong (a c b : Int) (h : ¬ (2 ≤ b ∧ b ≤ 36)) (w : World) :
    Calls Try.prog 11 #[.agg #[.int .i64 a, .int .i64 c], .int .i64 b] w fun e w' => e = .returned (.tuple #[.agg #[.int .i64 a, .int .i64 c], .int .u8 0]) ∧ Ext w w' := by
  have hr := isbase_calls b
  rw [wrong_dec h] at hr
  have HR := Lib.hid hr
  clear hr h
  go_enter Try.func11, Try.ntmps11
  go_wp2_with fail
  refine (HR.out _).mono ?_
  rintro e w1 ⟨rfl, rfl⟩
  obtain ⟨o0, o1⟩ := own2 w (.int .i64 a) (.int .i64 c) (.int .i64 0) (.int .i64 0)
  have hX := ((Ext.refl w).cells #[.int .i64 a, .int .i64 c] 24).cells #[.int .i64 0, .int .i64 0] 24
  go_wp2_with fail
  have o9 := o1.set (.int .i64 a) (.int .i64 c)
  have k0 := o9.c0
  have k1 := o9.c1
  refine bodyPost_ret (v := .tuple #[.agg #[.int .i64 a, .int .i64 c], .int .u8 0]) ?_ rfl ⟨rfl, ?_⟩
  · simp [results, Try.results11, go_sem]
  · exact ((Ext.refl w).cells _ _).cells _ _
theorem text_wrong (a c b : Int) (h : ¬ (2 ≤ b ∧ b ≤ 36)) (w : World) :
    Calls Try.prog 15 #[.agg #[.int .i64 a, .int .i64 c], .int .i64 b] w fun e w' => e = .returned (.string (bytes [])) ∧ Ext w w' := by
  have hr := isbase_calls b
  rw [wrong_dec h] at hr
  have HR := Lib.hid hr
  clear hr h
  go_enter Try.func15, Try.ntmps15
  go_wp2_with fail
  refine (HR.out _).mono ?_
  rintro e w1 ⟨rfl, rfl⟩
  have hX := (Ext.refl w).cells #[.int .i64 a, .int .i64 c] 24
  go_wp2_with fail
  go_ret
  exact ⟨rfl, hX⟩
theorem signed_wrong (a c b : Int) (h : ¬ (2 ≤ b ∧ b ≤ 36)) (w : World) :
    Calls Try.prog 17 #[.agg #[.int .i64 a, .int .i64 c], .int .i64 b] w fun e w' => e = .returned (.string (bytes [])) ∧ Ext w w' := by
  have hr := isbase_calls b
  rw [wrong_dec h] at hr
  have HR := Lib.hid hr
  have cT := Lib.hid (fun W => text_wrong a c b h W)
  clear hr h
  have hX := (Ext.refl w).cells #[.int .i64 a, .int .i64 c] 24
  by_cases hn : c < 0
  · go_enter Try.func17, Try.ntmps17
    go_wp2_with fail
    refine (HR.out _).mono ?_
    rintro e w1 ⟨rfl, rfl⟩
    go_wp2_with fail
    refine (cT.out _).mono ?_
    rintro e w3 ⟨rfl, hx⟩
    go_wp2_with fail
    go_ret
    exact ⟨rfl, hX.trans hx⟩
  · have hn' : 0 ≤ c := by omega
    have dn : decide (c < 0) = false := by simpa using hn
    go_enter Try.func17, Try.ntmps17
    go_wp2_with fail
    refine (cT.out _).mono ?_
    rintro e w3 ⟨rfl, hx⟩
    go_wp2_with fail
    go_ret
    exact ⟨rfl, hX.trans hx⟩
theorem accept_wrong (a c b : Int) (s : ByteArray) (hs : s.size ≤ 1000000000) (h : ¬ (2 ≤ b ∧ b ≤ 36)) (w : World) :
    Calls Try.prog 21 #[.agg #[.int .i64 a, .int .i64 c], .string s, .int .i64 b] w fun e w' => e = .returned (.tuple #[.agg #[.int .i64 a, .int .i64 c], .int .i64 (s.size : Int)]) ∧ Ext w w' := by
  have hr := isbase_calls b
  rw [wrong_dec h] at hr
  have HR := Lib.hid hr
  clear hr h
  go_enter Try.func21, Try.ntmps21
  go_wp2_with fail
  refine (HR.out _).mono ?_
  rintro e w1 ⟨rfl, rfl⟩
  go_wp2_with fail
  refine bodyPost_ret (v := .tuple #[.agg #[.int .i64 a, .int .i64 c], .int .i64 (s.size : Int)]) ?_ rfl ⟨rfl, ?_⟩
  · simp [results, Try.results21, go_sem]
  · exact ((Ext.refl w).cells _ _).cells _ _
theorem number_wrong (s : ByteArray) (b : Int) (h : ¬ (2 ≤ b ∧ b ≤ 36)) (w : World) :
    Calls Try.prog 24 #[.string s, .int .i64 b] w fun e w' => e = .returned (.tuple #[.agg #[.int .i64 0, .int .i64 0], .int .i64 0]) ∧ Ext w w' := by
  have hr := isbase_calls b
  rw [wrong_dec h] at hr
  have HR := Lib.hid hr
  clear hr h
  go_enter Try.func24, Try.ntmps24
  try simp only [List.append]
  go_wp2_with fail
  refine (HR.out _).mono ?_
  rintro e w1 ⟨rfl, rfl⟩
  go_wp2_with fail
  refine bodyPost_ret (v := .tuple #[.agg #[.int .i64 0, .int .i64 0], .int .i64 0]) ?_ rfl ⟨rfl, ?_⟩
  · simp [results, Try.results24, go_sem]
  · exact (Ext.refl w).cells _ _
theorem rstep_wrong (a c b : Int) (h : ¬ (2 ≤ b ∧ b ≤ 36)) (w : World) :
    Calls Try.prog 12 #[.agg #[.int .i64 a, .int .i64 c], .int .i64 b] w fun e w' => e = .returned (.tuple #[.agg #[.int .i64 a, .int .i64 c], .int .u8 0]) ∧ Ext w w' := by
  have hr := rright_calls b
  rw [wrong_dec h] at hr
  have HR := Lib.hid hr
  clear hr h
  go_enter Try.func12, Try.ntmps12
  go_wp2_with fail
  refine (HR.out _).mono ?_
  rintro e w1 ⟨rfl, rfl⟩
  obtain ⟨o0, o1⟩ := own2 w (.int .i64 a) (.int .i64 c) (.int .i64 0) (.int .i64 0)
  have hX := ((Ext.refl w).cells #[.int .i64 a, .int .i64 c] 24).cells #[.int .i64 0, .int .i64 0] 24
  go_wp2_with fail
  have o9 := o1.set (.int .i64 a) (.int .i64 c)
  have k0 := o9.c0
  have k1 := o9.c1
  refine bodyPost_ret (v := .tuple #[.agg #[.int .i64 a, .int .i64 c], .int .u8 0]) ?_ rfl ⟨rfl, ?_⟩
  · simp [results, Try.results12, go_sem]
  · exact ((Ext.refl w).cells _ _).cells _ _
theorem rtext_wrong (a c b : Int) (h : ¬ (2 ≤ b ∧ b ≤ 36)) (w : World) :
    Calls Try.prog 16 #[.agg #[.int .i64 a, .int .i64 c], .int .i64 b] w fun e w' => e = .returned (.string (bytes [])) ∧ Ext w w' := by
  have hr := rright_calls b
  rw [wrong_dec h] at hr
  have HR := Lib.hid hr
  clear hr h
  go_enter Try.func16, Try.ntmps16
  go_wp2_with fail
  refine (HR.out _).mono ?_
  rintro e w1 ⟨rfl, rfl⟩
  have hX := (Ext.refl w).cells #[.int .i64 a, .int .i64 c] 24
  go_wp2_with fail
  go_ret
  exact ⟨rfl, hX⟩
theorem rsigned_wrong (a c b : Int) (h : ¬ (2 ≤ b ∧ b ≤ 36)) (w : World) :
    Calls Try.prog 18 #[.agg #[.int .i64 a, .int .i64 c], .int .i64 b] w fun e w' => e = .returned (.string (bytes [])) ∧ Ext w w' := by
  have hr := rright_calls b
  rw [wrong_dec h] at hr
  have HR := Lib.hid hr
  have cT := Lib.hid (fun W => rtext_wrong a c b h W)
  clear hr h
  have hX := (Ext.refl w).cells #[.int .i64 a, .int .i64 c] 24
  by_cases hn : c < 0
  · go_enter Try.func18, Try.ntmps18
    go_wp2_with fail
    refine (HR.out _).mono ?_
    rintro e w1 ⟨rfl, rfl⟩
    go_wp2_with fail
    refine (cT.out _).mono ?_
    rintro e w3 ⟨rfl, hx⟩
    go_wp2_with fail
    go_ret
    exact ⟨rfl, hX.trans hx⟩
  · have hn' : 0 ≤ c := by omega
    have dn : decide (c < 0) = false := by simpa using hn
    go_enter Try.func18, Try.ntmps18
    go_wp2_with fail
    refine (cT.out _).mono ?_
    rintro e w3 ⟨rfl, hx⟩
    go_wp2_with fail
    go_ret
    exact ⟨rfl, hX.trans hx⟩
theorem raccept_wrong (a c b : Int) (s : ByteArray) (hs : s.size ≤ 1000000000) (h : ¬ (2 ≤ b ∧ b ≤ 36)) (w : World) :
    Calls Try.prog 23 #[.agg #[.int .i64 a, .int .i64 c], .string s, .int .i64 b] w fun e w' => e = .returned (.tuple #[.agg #[.int .i64 a, .int .i64 c], .int .i64 (s.size : Int)]) ∧ Ext w w' := by
  have hr := rright_calls b
  rw [wrong_dec h] at hr
  have HR := Lib.hid hr
  clear hr h
  go_enter Try.func23, Try.ntmps23
  go_wp2_with fail
  refine (HR.out _).mono ?_
  rintro e w1 ⟨rfl, rfl⟩
  go_wp2_with fail
  refine bodyPost_ret (v := .tuple #[.agg #[.int .i64 a, .int .i64 c], .int .i64 (s.size : Int)]) ?_ rfl ⟨rfl, ?_⟩
  · simp [results, Try.results23, go_sem]
  · exact ((Ext.refl w).cells _ _).cells _ _
theorem rnumber_wrong (s : ByteArray) (b : Int) (h : ¬ (2 ≤ b ∧ b ≤ 36)) (w : World) :
    Calls Try.prog 25 #[.string s, .int .i64 b] w fun e w' => e = .returned (.tuple #[.agg #[.int .i64 0, .int .i64 0], .int .i64 0]) ∧ Ext w w' := by
  have hr := rright_calls b
  rw [wrong_dec h] at hr
  have HR := Lib.hid hr
  clear hr h
  go_enter Try.func25, Try.ntmps25
  try simp only [List.append]
  go_wp2_with fail
  refine (HR.out _).mono ?_
  rintro e w1 ⟨rfl, rfl⟩
  go_wp2_with fail
  refine bodyPost_ret (v := .tuple #[.agg #[.int .i64 0, .int .i64 0], .int .i64 0]) ?_ rfl ⟨rfl, ?_⟩
  · simp [results, Try.results25, go_sem]
  · exact (Ext.refl w).cells _ _
theorem num_nil (B : Nat) : numOf B [] = (0, 0, 0) := by
  unfold numOf
  rw [pre_nil]
  rfl
theorem rnumber_nil (B : Nat) (h2 : 2 ≤ B) (h36 : B ≤ 36) (w : World) :
    Calls Try.prog 25 #[.string ⟨#[]⟩, .int .i64 (B : Int)] w fun e w' => e = .returned (.tuple #[.agg #[.int .i64 0, .int .i64 0], .int .i64 0]) ∧ Ext w w' := by
  have hr := rright_calls (B : Int)
  rw [decide_eq_true ⟨by omega, by omega⟩] at hr
  have HR := Lib.hid hr
  clear hr h2 h36
  go_enter Try.func25, Try.ntmps25
  try simp only [List.append]
  go_wp2_with fail
  refine (HR.out _).mono ?_
  rintro e w1 ⟨rfl, rfl⟩
  go_wp2_with fail
  refine bodyPost_ret (v := .tuple #[.agg #[.int .i64 0, .int .i64 0], .int .i64 0]) ?_ rfl ⟨rfl, ?_⟩
  · simp [results, Try.results25, go_sem]
  · exact (Ext.refl w).cells _ _
end Go.Proofs.Ytoaijcahjmkkpaa
