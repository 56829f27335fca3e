/- Layer 14: FrameLoops. No condition. -/
import Derived.Test.YtacmidlhfcnkiaaGP
import Derived.Test.YtacmidlhfcnkiaaRowIn
namespace Go.Proofs.Ytacmidlhfcnkiaa
open Go.RowKit Go.ChangeShapes Go.WideShapes
set_option linter.unusedVariables false

set_option maxRecDepth 100000 in
set_option maxHeartbeats 4000000 in
theorem loops_walk (w : World) (f : Int) (hf : (Lit.int .i64 f).wf = true) (b : Int) (hb : (Lit.int .u8 b).wf = true) (c : Int) (hc : (Lit.int .u8 c).wf = true) :
    Calls Try.prog 4 #[.int .i64 f, .int .u8 b, .int .u8 c] w fun e w' => e = .returned (.bool true) ∧ Mod [] w w' := by
  have hb2 := bounds_u8 hb
  have hc2 := bounds_u8 hc
  have hfI := i64_of_wf hf
  have H1 := Lib.hid (shown_calls w)
  go_enter Try.func4, Try.ntmps4
  go_wp2_with fail
  refine (H1.out).mono ?_
  rintro e w1 ⟨rfl, hm⟩
  have HM := Lib.hid hm
  clear hm H1
  go_upto_region 4 with fail
  obtain ⟨n, hn⟩ : ∃ n : Nat, b % 200 + 1 = (n : Int) := ⟨(b % 200 + 1).toNat, by omega⟩
  obtain ⟨k, hk⟩ : ∃ k : Nat, c % 9 + 1 = (k : Int) := ⟨(c % 9 + 1).toNat, by omega⟩
  rw [hn, hk]
  have n0 : 0 < n := by omega
  have n2 : n ≤ 200 := by omega
  have k0 : 0 < k := by omega
  have k9 : k ≤ 9 := by omega
  obtain ⟨Y, hY⟩ : ∃ Y, Y = wrap64 (f + (n : Int)) := ⟨_, rfl⟩
  have hYI : I64 Y := by rw [hY]; exact i64_wrap _
  have wY : IntKind.i64.wrap (f + (n : Int)) = Y := by rw [hY, IntKind.wrap_i64]; unfold wrap64; omega
  have w1' : IntKind.i64.wrap ((n : Int) + 1) = (n : Int) + 1 := by rw [IntKind.wrap_i64]; omega
  obtain ⟨a1, ha1⟩ : ∃ a1, a1 = (n : Int) + (k : Int) := ⟨_, rfl⟩
  have w2 : IntKind.i64.wrap ((n : Int) + (k : Int)) = a1 := by rw [IntKind.wrap_i64, ha1]; omega
  obtain ⟨a2, ha2⟩ : ∃ a2, a2 = a1 - 1 := ⟨_, rfl⟩
  have w3 : IntKind.i64.wrap (a1 - 1) = a2 := by rw [IntKind.wrap_i64, ha2]; omega
  have ha2n : a2 = ((n + k - 1 : Nat) : Int) := by omega
  obtain ⟨a3, ha3⟩ : ∃ a3, a3 = (n + k - 1) / k := ⟨_, rfl⟩
  have ha3b : a3 ≤ 1000 := by rw [ha3]; exact Nat.le_trans (Nat.div_le_self _ _) (by omega)
  obtain ⟨b3, hb3⟩ : ∃ b3, b3 = n / k := ⟨_, rfl⟩
  have hb3b : b3 ≤ 1000 := by rw [hb3]; exact Nat.le_trans (Nat.div_le_self _ _) (by omega)
  have q3 : a2.tdiv (k : Int) = (a3 : Int) := by rw [ha2n, ha3]; exact Int.ofNat_tdiv _ _
  have q3' : a2 / (k : Int) = (a3 : Int) := by rw [ha2n, ha3]; simp
  have q4 : (n : Int).tdiv (k : Int) = (b3 : Int) := by rw [hb3]; exact Int.ofNat_tdiv _ _
  have q4' : (n : Int) / (k : Int) = (b3 : Int) := by rw [hb3]; simp
  have w4 : IntKind.i64.wrap (a3 : Int) = (a3 : Int) := by rw [IntKind.wrap_i64]; omega
  have w5 : IntKind.i64.wrap (b3 : Int) = (b3 : Int) := by rw [IntKind.wrap_i64]; omega
  have w6 : IntKind.i64.wrap ((b3 : Int) + 1) = (b3 : Int) + 1 := by rw [IntKind.wrap_i64]; omega
  have w7 : IntKind.i64.wrap (-(k : Int)) = -(k : Int) := by rw [IntKind.wrap_i64]; omega
  have kz : ¬ (k : Int) = 0 := by omega
  have kz' : ¬ k = 0 := by omega
  have K1 := Lib.hid (fun W => steps_calls W hfI (show StepsIs f Y 1 (n : Int) from by
    have := steps_up f n0 n2 (k := 1) (by omega) (by omega)
    rw [← hY, Nat.add_sub_cancel, Nat.div_one] at this
    exact this))
  have K2 := Lib.hid (fun W => steps_calls W hYI (show StepsIs Y f (-1) ((n : Int) + 1) from by
    have := steps_down f n2 (k := 1) (by omega) (by omega)
    rw [← hY, Nat.div_one] at this
    exact this))
  have K3 := Lib.hid (fun W => steps_calls W hfI (show StepsIs f Y (k : Int) (a3 : Int) from by
    have := steps_up f n0 n2 k0 k9
    rw [← hY, ← ha3] at this
    exact this))
  have K4 := Lib.hid (fun W => steps_calls W hYI (show StepsIs Y f (-(k : Int)) ((b3 : Int) + 1) from by
    have := steps_down f n2 k0 k9
    rw [← hY, ← hb3] at this
    exact this))
  have K5 := Lib.hid (fun W => steps_calls W hfI (steps_never f Y))
  clear hn hk n0 n2 k0 k9 hY hYI ha1 ha2 ha2n ha3 ha3b hb3 hb3b hb2 hc2 hfI hf hb hc
  go_region_held3 (fun V => Mod [] w V) (first | exact HM.out.drew | exact Mod.trans (by assumption) m1 | fail) (first
    | ((with_reducible refine (K1.out _).mono ?_); rintro e v1 ⟨rfl, m1⟩)
    | ((with_reducible refine (K2.out _).mono ?_); rintro e v1 ⟨rfl, m1⟩)
    | ((with_reducible refine (K3.out _).mono ?_); rintro e v1 ⟨rfl, m1⟩)
    | ((with_reducible refine (K4.out _).mono ?_); rintro e v1 ⟨rfl, m1⟩)
    | ((with_reducible refine (K5.out _).mono ?_); rintro e v1 ⟨rfl, m1⟩)
    | fail)
  go_wp2_with fail
  go_ret
  exact ⟨rfl, by assumption⟩
end Go.Proofs.Ytacmidlhfcnkiaa
