/- Layer 4: RealWhole's walk. No condition. -/
import Derived.Test.YtlemappbblofcaaDoorR4H
namespace Go.Proofs.YtlemappbblofcaaDoor
open Go.RowKit
set_option linter.unusedVariables false

set_option maxHeartbeats 8000000 in
set_option maxRecDepth 100000 in
theorem whole_ways (a0 a1 X Y : Int) (hX : a0 / 128 = X) (hY : a1 / 128 = Y) (x1 : -16777216 ≤ X) (x2 : X < 16777216) (y1 : -16777216 ≤ Y) (y2 : Y < 16777216) (A1 : -2147483648 ≤ a0) (A2 : a0 ≤ 2147483647) (B1 : -2147483648 ≤ a1) (B2 : a1 ≤ 2147483647)
    (zx zy : Bool) (hzx : Value.bool (X != 0) = Value.bool zx) (hzy : Value.bool (Y != 0) = Value.bool zy) (w : World) (g : Good w) :
    Calls Tryd.prog 7 #[.int .i32 a0, .int .i32 a1] w fun e w' => e = .returned (.bool true) ∧ Far w w' := by
  have kx : X.natAbs < 9007199254740992 := by omega
  have ky : Y.natAbs < 9007199254740992 := by omega
  have HSH := Lib.hid (From.good g (shown4_calls) (w := w))
  have ha := w_add X Y kx ky
  have hs := w_sub X Y kx ky
  have hl := w_less X Y kx ky
  have he := w_eq X Y kx ky
  have hh := w_half X kx
  have ht := w_to X (by omega)
  have hw := w_twice X kx
  have hm : zx = true → zy = true → ∀ w, Calls Tryd.prog 20 #[.int .i64 5, .int .i64 X, .int .i64 Y] w fun e w' => e = .returned (.int .i64 (cellOf (ofF (X * Y)))) ∧ Far w w' := by
    intro h1 h2
    refine w_mul X Y kx ky ?_ ?_
    · intro h; rw [h] at hzx; injection hzx with k; rw [h1] at k; exact absurd k (by decide)
    · intro h; rw [h] at hzy; injection hzy with k; rw [h2] at k; exact absurd k (by decide)
  have oa := of_calls (X + Y)
  have os := of_calls (X - Y)
  have om := of_calls (X * Y)
  have ox := of_calls X
  have tl := truth4 (decide (X < Y))
  have te := truth4 (X == Y)
  have mb : -9223372036854775808 ≤ X * Y ∧ X * Y ≤ 9223372036854775807 := by
    have h1 : X * Y ≤ 16777216 * 16777216 := by
      rcases Int.le_total 0 X with p | p
      · rcases Int.le_total 0 Y with q | q
        · exact Int.mul_le_mul (by omega) (by omega) q (by decide)
        · exact Int.le_trans (Int.mul_nonpos_of_nonneg_of_nonpos p q) (by decide)
      · rcases Int.le_total 0 Y with q | q
        · exact Int.le_trans (Int.mul_nonpos_of_nonpos_of_nonneg p q) (by decide)
        · have := Int.mul_le_mul (a := -X) (b := -Y) (c := 16777216) (d := 16777216) (by omega) (by omega) (by omega) (by decide)
          rwa [Int.neg_mul_neg] at this
    have h2 : -(16777216 * 16777216) ≤ X * Y := by
      rcases Int.le_total 0 X with p | p
      · rcases Int.le_total 0 Y with q | q
        · exact Int.le_trans (by decide) (Int.mul_nonneg p q)
        · have := Int.mul_le_mul (a := X) (b := -Y) (c := 16777216) (d := 16777216) (by omega) (by omega) (by omega) (by decide)
          rw [Int.mul_neg] at this; omega
      · rcases Int.le_total 0 Y with q | q
        · have := Int.mul_le_mul (a := -X) (b := Y) (c := 16777216) (d := 16777216) (by omega) (by omega) (by omega) (by decide)
          rw [Int.neg_mul] at this; omega
        · exact Int.le_trans (by decide) (Int.mul_nonneg_of_nonpos_of_nonpos p q)
    omega
  obtain ⟨m1, m2⟩ := mb
  generalize cellOf (ofF (X + Y)) = cA at *
  generalize cellOf (ofF (X - Y)) = cS at *
  generalize cellOf (ofF (X * Y)) = cM at *
  generalize cellOf (ofF X) = cX at *
  generalize cellOf (halfF X) = cH at *
  have hf := Far.refl w
  have HA := Lib.hid (From.far ha (w := w))
  have HS := Lib.hid (From.far hs (w := w))
  have HL := Lib.hid (From.far hl (w := w))
  have HE := Lib.hid (From.far he (w := w))
  have HH := Lib.hid (From.far hh (w := w))
  have HT := Lib.hid (From.same ht (w := w))
  have HW := Lib.hid (From.ext hw (w := w))
  have OA := Lib.hid (From.same oa (w := w))
  have OS := Lib.hid (From.same os (w := w))
  have OM := Lib.hid (From.same om (w := w))
  have OX := Lib.hid (From.same ox (w := w))
  have TL := Lib.hid (From.same tl (w := w))
  have TE := Lib.hid (From.same te (w := w))
  clear ha hs hl he hh ht hw oa os om ox tl te kx ky g
  cases zx <;> cases zy
  all_goals
    try have HM := Lib.hid (From.far (hm rfl rfl) (w := w))
    clear hm
    go_enter Tryd.func7, Tryd.ntmps7
    try simp only [List.append]
    go_wp2_with (first | ((with_reducible refine (HSH.out _ ?_).mono ?_); assumption; rintro e w' ⟨rfl, hf⟩) | ((with_reducible refine (HA.out _ ?_).mono ?_); assumption; rintro e w' ⟨rfl, hf⟩) | ((with_reducible refine (HS.out _ ?_).mono ?_); assumption; rintro e w' ⟨rfl, hf⟩) | ((with_reducible refine (HL.out _ ?_).mono ?_); assumption; rintro e w' ⟨rfl, hf⟩) | ((with_reducible refine (HE.out _ ?_).mono ?_); assumption; rintro e w' ⟨rfl, hf⟩) | ((with_reducible refine (HH.out _ ?_).mono ?_); assumption; rintro e w' ⟨rfl, hf⟩) | ((with_reducible refine (HT.out _ ?_).mono ?_); assumption; rintro e w' ⟨rfl, hf⟩) | ((with_reducible refine (HW.out _ ?_).mono ?_); assumption; rintro e w' ⟨rfl, hf⟩) | ((with_reducible refine (OA.out _ ?_).mono ?_); assumption; rintro e w' ⟨rfl, hf⟩) | ((with_reducible refine (OS.out _ ?_).mono ?_); assumption; rintro e w' ⟨rfl, hf⟩) | ((with_reducible refine (OM.out _ ?_).mono ?_); assumption; rintro e w' ⟨rfl, hf⟩) | ((with_reducible refine (OX.out _ ?_).mono ?_); assumption; rintro e w' ⟨rfl, hf⟩) | ((with_reducible refine (TL.out _ ?_).mono ?_); assumption; rintro e w' ⟨rfl, hf⟩) | ((with_reducible refine (TE.out _ ?_).mono ?_); assumption; rintro e w' ⟨rfl, hf⟩) | ((with_reducible refine (HM.out _ ?_).mono ?_); assumption; rintro e w' ⟨rfl, hf⟩))
    go_ret
    exact ⟨rfl, by assumption⟩
end Go.Proofs.YtlemappbblofcaaDoor
