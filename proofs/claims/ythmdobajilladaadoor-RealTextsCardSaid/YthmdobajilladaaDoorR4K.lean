/- Layer 4: RealBack's walk. Condition: cells are integers of 64 bits. -/
import Derived.Test.YthmdobajilladaaDoorR4Q
namespace Go.Proofs.YthmdobajilladaaDoor
open Go.RowKit Ieee
set_option linter.unusedVariables false

theorem text_len (s : Bool) (r : Nat) (hi : r ≤ 9218868437227405312) : (realText s r).length ≤ 1000 := by
  have := body_len r hi
  unfold realText
  cases s
  · rw [if_neg (by decide)]; omega
  · rw [if_pos rfl, List.length_cons]; omega
set_option maxHeartbeats 4000000 in
set_option maxRecDepth 100000 in
theorem back_walk (f : Int) (hf64 : I64 f) (w : World) (g : GoodN w) :
    Calls Tryd.prog 4 #[.int .i64 f] w fun e w' => e = .returned (.bool true) ∧ Far w w' := by
  have HSH := Lib.hid (From.good g.good (shown4_calls) (w := w))
  have hf := Far.refl w
  rcases fbits_split f with n | ⟨s, r, hx, hi⟩
  · have T1 := Lib.hid (From.far (text_nan f n) (w := w))
    have nm := From.goodn g (number_calls [110, 97, 110] (by decide)) (w := w)
    rw [num_nan] at nm
    have N1 := Lib.hid nm
    clear nm n g
    go_enter Tryd.func4, Tryd.ntmps4
    go_wp2_with (first | ((with_reducible refine (HSH.out _ ?_).mono ?_); assumption; rintro e w' ⟨rfl, hf⟩) | ((with_reducible refine (T1.out _ ?_).mono ?_); assumption; rintro e w' ⟨rfl, hf⟩) | ((with_reducible refine (N1.out _ ?_).mono ?_); assumption; rintro e w' ⟨rfl, hf⟩))
    go_ret
    exact ⟨rfl, by assumption⟩
  · by_cases c : r = 9218868437227405312
    · subst c
      have T1 := Lib.hid (From.good g.good (text_word f s _ hx (by decide)) (w := w))
      have nm := From.goodn g (number_calls (realText s 9218868437227405312) (text_len s _ (by decide))) (w := w)
      rw [num_inf] at nm
      have N1 := Lib.hid nm
      clear nm hx hi g
      have e : (⟨(realText s 9218868437227405312).toArray⟩ : ByteArray) = if s then ⟨#[45, 105, 110, 102]⟩ else ⟨#[105, 110, 102]⟩ := by cases s <;> rfl
      rw [e] at T1
      change Hid (From w 9 #[.string (⟨(realText s 9218868437227405312).toArray⟩ : ByteArray)] _) at N1
      rw [e] at N1
      clear e
      cases s
      all_goals
        simp only [Bool.false_eq_true, if_false, if_true] at T1 N1
        go_enter Tryd.func4, Tryd.ntmps4
        go_wp2_with (first | ((with_reducible refine (HSH.out _ ?_).mono ?_); assumption; rintro e w' ⟨rfl, hf⟩) | ((with_reducible refine (T1.out _ ?_).mono ?_); assumption; rintro e w' ⟨rfl, hf⟩) | ((with_reducible refine (N1.out _ ?_).mono ?_); assumption; rintro e w' ⟨rfl, hf⟩))
        go_ret
        exact ⟨rfl, by assumption⟩
    · have hr : r < 9218868437227405312 := by omega
      have T1 := Lib.hid (From.good g.good (text_word f s r hx hi) (w := w))
      have nm := From.goodn g (number_calls (realText s r) (text_len s r hi)) (w := w)
      rw [num_text s r hr, ← hx, cell_fbits hf64 (by rw [hx]; exact isN_word s hi)] at nm
      have N1 := Lib.hid nm
      have q1 := rtext_ne s r hr [110, 97, 110] (by decide)
      have q2 := rtext_ne s r hr [105, 110, 102] (by decide)
      have q3 := rtext_ne s r hr [45, 105, 110, 102] (by decide)
      change Hid (From w 11 _ (.string (bs (realText s r)))) at T1
      clear nm hx hi g c hr
      generalize bs (realText s r) = S at *
      go_enter Tryd.func4, Tryd.ntmps4
      go_wp2_with (first | ((with_reducible refine (HSH.out _ ?_).mono ?_); assumption; rintro e w' ⟨rfl, hf⟩) | ((with_reducible refine (T1.out _ ?_).mono ?_); assumption; rintro e w' ⟨rfl, hf⟩) | ((with_reducible refine (N1.out _ ?_).mono ?_); assumption; rintro e w' ⟨rfl, hf⟩))
      go_ret
      exact ⟨rfl, by assumption⟩
end Go.Proofs.YthmdobajilladaaDoor
