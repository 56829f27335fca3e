/- Layer 14: the closure of FrameLoops. No condition. -/
import Derived.Test.YtacmidlhfcnkiaaGO
namespace Go.Proofs.Ytacmidlhfcnkiaa
open Go.RowKit
set_option linter.unusedVariables false

/-- Where a loop from x is after j steps by s, and how far behind y. -/
def atJ (x s : Int) (j : Nat) : Int := wrap64 (x + (j : Int) * s)
def behind (x y s : Int) (j : Nat) : Int := wrap64 (atJ x s j - y)
/-- r is how many steps it takes, of 300 at most; 0 if it does not end. -/
def StepsIs (x y s r : Int) : Prop := (∃ n : Nat, n < 300 ∧ (∀ j, j < n → endsF (behind x y s j) s = false) ∧ endsF (behind x y s n) s = true ∧ r = (n : Int) + 1) ∨ ((∀ j, j < 300 → endsF (behind x y s j) s = false) ∧ r = 0)
theorem atJ_zero {x : Int} (hx : I64 x) (s : Int) : atJ x s 0 = x := by unfold atJ; rw [show x + ((0 : Nat) : Int) * s = x by simp]; exact wrap_id hx
theorem atJ_succ (x s : Int) (j : Nat) : wrap64 (atJ x s j + s) = atJ x s (j + 1) := by
  unfold atJ
  rw [wrap_add_l, show x + (j : Int) * s + s = x + ((j + 1 : Nat) : Int) * s by rw [Int.natCast_add, Int.add_mul]; simp; omega]
theorem atJ_text (x s : Int) (j : Nat) : wrap64 (x + wrap64 ((j : Int) * s)) = atJ x s j := by unfold atJ; exact wrap_add_r _ _
abbrev lpF (X y : Int) : Fm := ⟨3, 0, 0, X, y, []⟩
theorem index_lp (X y : Int) : indexL 0 [lpF X y] = some X := by
  unfold indexL
  rw [show [lpF X y] = [] ++ lpF X y :: [] from rfl, loopAt_is (by rfl) (by simp)]
  rfl
theorem step_lp (X y s : Int) : stepEnd s [lpF X y] = endsF (wrap64 (X - y)) s ∧ stepL s [lpF X y] = (if endsF (wrap64 (X - y)) s then [] else [lpF (wrap64 (X + s)) y]) ∧ errK 3 (-26) [lpF X y] = 0 := ⟨rfl, rfl, rfl⟩
set_option maxRecDepth 100000 in
set_option maxHeartbeats 4000000 in
theorem steps_calls (w : World) {x y s r : Int} (hx : I64 x) (hr : StepsIs x y s r) : Calls Try.prog 20 #[.int .i64 x, .int .i64 y, .int .i64 s] w fun e w' => e = .returned (.int .i64 r) ∧ Mod [] w w' := by
  have H1 := Lib.hid (new_fo (Mod.refl [] w))
  have HR := Lib.hid (And.intro hr hx)
  clear hr hx
  go_enter Try.func20, Try.ntmps20
  go_wp2_with fail
  refine (H1.out).mono ?_
  rintro e w1 ⟨p, rfl, hF, _⟩
  have H2 := Lib.hid (hF.push (q := lpF x y) (Ls.nil w1) (by simp))
  rw [show pushE [] = 0 by decide +kernel, show pushL [] (lpF x y) = [lpF x y] from rfl] at H2
  clear hF H1
  go_wp2_with fail
  refine (H2.out).mono ?_
  rintro e w2 ⟨rfl, hF⟩
  have HF := Lib.hid hF
  clear hF H2
  go_wp2_with fail
  go_loopw [20] (fun z wr => ∃ k : Nat, z = .int .i64 (k : Int) ∧ k ≤ 300 ∧ RowKit.Hid (Fo TP w wr p [lpF (atJ x s k) y] []) ∧ RowKit.Hid (∀ j, j < k → endsF (behind x y s j) s = false)) (fun z _ => 300 - (intOf z).toNat)
  case atStart => exact ⟨0, rfl, by omega, by rw [atJ_zero HR.out.2]; exact HF, Lib.hid fun j hj => by omega⟩
  case round =>
    obtain ⟨k, rfl, hk, hF, hno⟩ := hrel
    by_cases hlt : k < 300
    · have hkI : (k : Int) < 300 := by omega
      obtain ⟨X, hX⟩ : ∃ X, X = atJ x s k := ⟨_, rfl⟩
      have H3 := Lib.hid (hF.out.index 0)
      rw [index_lp, ← hX] at H3
      have q1 : wrap64 (x + wrap64 ((k : Int) * s)) = X := by rw [atJ_text, hX]
      have HX := Lib.hid hX
      clear hX
      go_wp2_with fail
      refine (H3.out).mono ?_
      rintro e w3 ⟨rfl, hF3⟩
      have H4 := Lib.hid (hF3.step s)
      rw [(step_lp X y s).1, (step_lp X y s).2.1, (step_lp X y s).2.2] at H4
      cases he : endsF (wrap64 (X - y)) s with
      | true =>
        rw [he, if_pos rfl] at H4
        have HE := Lib.hid he
        clear hF3 H3 he
        go_wp2_with fail
        refine (H4.out).mono ?_
        rintro e w4 ⟨rfl, hF4⟩
        have HM := Lib.hid hF4.mod
        clear hF4 H4
        go_wp2_with fail
        go_ret
        refine ⟨?_, HM.out⟩
        rcases HR.out.1 with ⟨n, hn, h1, h2, h3⟩ | ⟨h1, h2⟩
        · have : n = k := by
            rcases Nat.lt_trichotomy n k with h | h | h
            · have := hno.out n h; rw [h2] at this; cases this
            · exact h
            · have h4 := h1 k h; unfold behind at h4; rw [← HX.out, HE.out] at h4; cases h4
          rw [h3, this]
          rfl
        · have h4 := h1 k hlt; unfold behind at h4; rw [← HX.out, HE.out] at h4; cases h4
      | false =>
        rw [he, if_neg (by simp)] at H4
        have HE := Lib.hid he
        clear hF3 H3 he
        go_wp2_with fail
        refine (H4.out).mono ?_
        rintro e w4 ⟨rfl, hF4⟩
        have HF4 := Lib.hid hF4
        clear hF4 H4
        go_wp2_with fail
        go_roundw
        case rel => exact ⟨k + 1, by go_num, by omega, by rw [← atJ_succ, ← HX.out]; exact HF4, Lib.hid fun j hj => by
          by_cases e : j = k
          · subst e; unfold behind; rw [← HX.out]; exact HE.out
          · exact hno.out j (by omega)⟩
        case measure => simp [intOf]; omega
    · have hkI : ¬ (k : Int) < 300 := by omega
      have HM := Lib.hid hF.out.mod
      go_wp2_with fail
      go_ret
      refine ⟨?_, HM.out⟩
      rcases HR.out.1 with ⟨n, hn, h1, h2, h3⟩ | ⟨h1, h2⟩
      · have := hno.out n (by omega); rw [h2] at this; cases this
      · rw [h2]
        rfl
/-! The five calls of the law. -/
theorem behind_up {f : Int} {n k : Nat} (hn : n ≤ 200) (hk : k ≤ 9) (j : Nat) (hj : j < 300) : behind f (wrap64 (f + (n : Int))) (k : Int) j = (j : Int) * (k : Int) - (n : Int) := by
  unfold behind atJ
  rw [wrap_sub_r, wrap_sub_l, show f + (j : Int) * (k : Int) - (f + (n : Int)) = (j : Int) * (k : Int) - (n : Int) by omega]
  refine wrap_id ?_
  have h1 : j * k ≤ 300 * 9 := Nat.mul_le_mul (by omega) hk
  have h2 : (j : Int) * (k : Int) = ((j * k : Nat) : Int) := by simp
  rw [h2]
  unfold I64
  omega
theorem behind_down {f : Int} {n k : Nat} (hn : n ≤ 200) (hk : k ≤ 9) (j : Nat) (hj : j < 300) : behind (wrap64 (f + (n : Int))) f (-(k : Int)) j = (n : Int) - (j : Int) * (k : Int) := by
  unfold behind atJ
  rw [wrap_add_l, wrap_sub_l, show f + (n : Int) + (j : Int) * -(k : Int) - f = (n : Int) - (j : Int) * (k : Int) by rw [Int.mul_neg]; omega]
  refine wrap_id ?_
  have h1 : j * k ≤ 300 * 9 := Nat.mul_le_mul (by omega) hk
  have h2 : (j : Int) * (k : Int) = ((j * k : Nat) : Int) := by simp
  rw [h2]
  unfold I64
  omega
theorem small64 {a : Int} (h1 : -100000 ≤ a) (h2 : a ≤ 100000) : wrap64 a = a := wrap_id ⟨by omega, by omega⟩
theorem ends_up {d : Int} {k : Nat} (h1 : -50000 ≤ d) (h2 : d ≤ 50000) (hk : k ≤ 9) : endsF d (k : Int) = (decide (d < 0) && decide (0 ≤ d + (k : Int))) := by
  unfold endsF
  rw [if_neg (by omega), small64 (by omega) (by omega)]
theorem ends_down {d : Int} {k : Nat} (h1 : -50000 ≤ d) (h2 : d ≤ 50000) (hk0 : 0 < k) (hk : k ≤ 9) : endsF d (-(k : Int)) = (decide (0 ≤ d) && decide (d - (k : Int) < 0)) := by
  unfold endsF
  rw [if_pos (by omega), small64 (by omega) (by omega)]
  rfl
theorem steps_up (f : Int) {n k : Nat} (hn0 : 0 < n) (hn : n ≤ 200) (hk0 : 0 < k) (hk : k ≤ 9) : StepsIs f (wrap64 (f + (n : Int))) (k : Int) (((n + k - 1) / k : Nat) : Int) := by
  have hdiv : (n + k - 1) / k = (n - 1) / k + 1 := by
    rw [show n + k - 1 = (n - 1) + k by omega, Nat.add_div_right _ hk0]
  have hm := Nat.div_add_mod (n - 1) k
  have hlt := Nat.mod_lt (n - 1) hk0
  obtain ⟨m, hmm⟩ : ∃ m, m = (n - 1) / k := ⟨_, rfl⟩
  rw [← hmm] at hm hdiv
  have hm200 : m ≤ 200 := by rw [hmm]; exact Nat.le_trans (Nat.div_le_self _ _) (by omega)
  have hmk : k * m = m * k := Nat.mul_comm _ _
  refine Or.inl ⟨m, by omega, fun j hj => ?_, ?_, by rw [hdiv]; simp⟩
  · rw [behind_up hn hk j (by omega)]
    have h1 : j * k ≤ 300 * 9 := Nat.mul_le_mul (by omega) hk
    have h2 : (j : Int) * (k : Int) = ((j * k : Nat) : Int) := by simp
    have h3 : j * k + k ≤ m * k := by rw [← Nat.succ_mul]; exact Nat.mul_le_mul_right k hj
    rw [h2, ends_up (by omega) (by omega) hk]
    rw [Bool.and_eq_false_iff]
    right
    rw [decide_eq_false_iff_not]
    omega
  · rw [behind_up hn hk m (by omega)]
    have h1 : m * k ≤ 300 * 9 := Nat.mul_le_mul (by omega) hk
    have h2 : (m : Int) * (k : Int) = ((m * k : Nat) : Int) := by simp
    rw [h2, ends_up (by omega) (by omega) hk, Bool.and_eq_true, decide_eq_true_iff, decide_eq_true_iff]
    omega
theorem steps_down (f : Int) {n k : Nat} (hn : n ≤ 200) (hk0 : 0 < k) (hk : k ≤ 9) : StepsIs (wrap64 (f + (n : Int))) f (-(k : Int)) ((n / k : Nat) + 1 : Int) := by
  have hm := Nat.div_add_mod n k
  have hlt := Nat.mod_lt n hk0
  obtain ⟨m, hmm⟩ : ∃ m, m = n / k := ⟨_, rfl⟩
  rw [← hmm] at hm ⊢
  have hm200 : m ≤ 200 := by rw [hmm]; exact Nat.le_trans (Nat.div_le_self _ _) hn
  have hmk : k * m = m * k := Nat.mul_comm _ _
  refine Or.inl ⟨m, by omega, fun j hj => ?_, ?_, rfl⟩
  · rw [behind_down hn hk j (by omega)]
    have h1 : j * k ≤ 300 * 9 := Nat.mul_le_mul (by omega) hk
    have h2 : (j : Int) * (k : Int) = ((j * k : Nat) : Int) := by simp
    have h3 : j * k + k ≤ m * k := by rw [← Nat.succ_mul]; exact Nat.mul_le_mul_right k hj
    rw [h2, ends_down (by omega) (by omega) hk0 hk, Bool.and_eq_false_iff]
    right
    rw [decide_eq_false_iff_not]
    omega
  · rw [behind_down hn hk m (by omega)]
    have h1 : m * k ≤ 300 * 9 := Nat.mul_le_mul (by omega) hk
    have h2 : (m : Int) * (k : Int) = ((m * k : Nat) : Int) := by simp
    rw [h2, ends_down (by omega) (by omega) hk0 hk, Bool.and_eq_true, decide_eq_true_iff, decide_eq_true_iff]
    omega
theorem steps_never (f y : Int) : StepsIs f y 0 0 := by
  refine Or.inr ⟨fun j _ => ?_, rfl⟩
  obtain ⟨d, hd⟩ : ∃ d, d = behind f y 0 j := ⟨_, rfl⟩
  have hI : I64 d := by rw [hd]; exact i64_wrap _
  rw [← hd]
  unfold endsF
  rw [if_neg (by omega), Int.add_zero, wrap_id hI, Bool.and_eq_false_iff]
  by_cases h : d < 0
  · right; rw [decide_eq_false_iff_not]; omega
  · left; rw [decide_eq_false_iff_not]; exact h
end Go.Proofs.Ytacmidlhfcnkiaa
