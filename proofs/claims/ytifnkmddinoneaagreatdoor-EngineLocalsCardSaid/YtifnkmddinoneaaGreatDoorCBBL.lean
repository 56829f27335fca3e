/- Layer 2 (package pair): the signed product, and the long division in words. Condition: cells are integers of 64 bits. Layer 2 (package pair): the division of signed numbers that rounds towards 0. Condition: cells are integers of 64 bits, the divisor is not 0. Layer 2 (package pair): the three divisions. Condition: cells are integers of 64 bits. Layer 2 (package pair): the division that rounds down, and the one without signs. Condition: cells are integers of 64 bits. The document's answers for layer 3 (package rhytonref03): letters, digits. Condition: numbers of 64 bits. Layer 3 (package digit): bases, letters, digits. No condition. The document's answers for layer 3: what is taken off a number. Condition: cells are integers of 64 bits, the base is from 2 to 36. Layer 3 (package digit): what is taken off a number, and one digit taken in. Condition: cells are integers of 64 bits, the base is from 2 to 36. The document's answers for layer 3: the number that a text is. Condition: the text is of at most 1000000000 bytes, the base is from 2 to 36. Layer 3 (package digit): numbers with a sign as text; the base that a text tells. Condition: cells are integers of 64 bits, the base is from 2 to 36. -/
import Derived.Test.YtifnkmddinoneaaGreatDoorCBBJ
import Derived.Test.YtifnkmddinoneaaGreatDoorCBBK
import Derived.Test.YtifnkmddinoneaaGreatDoorCBBH
import Derived.Laws.IdiomStrings
import Derived.Deep.DeepCutAuto
import Derived.Deep.CutBlock
set_option maxRecDepth 100000
namespace Go.Proofs.YtifnkmddinoneaaGreatDoor
open Go.RowKit
set_option linter.unusedVariables false
theorem word_div (h l y : Nat) (hy : 0 < y) : ((h % y) * 18446744073709551616 + l) / y + h / y * 18446744073709551616 = (h * 18446744073709551616 + l) / y ∧ ((h % y) * 18446744073709551616 + l) % y = (h * 18446744073709551616 + l) % y := by
  have e := Nat.div_add_mod h y
  obtain ⟨q, hq⟩ : ∃ q, q = h / y := ⟨_, rfl⟩
  obtain ⟨r, hr⟩ : ∃ q, q = h % y := ⟨_, rfl⟩
  rw [← hq, ← hr] at e ⊢
  have e2 : h * 18446744073709551616 + l = (r * 18446744073709551616 + l) + y * (q * 18446744073709551616) := by
    rw [← Nat.mul_assoc]; omega
  rw [e2, Nat.add_mul_div_left _ _ hy, Nat.add_mul_mod_self_left]
  exact ⟨rfl, rfl⟩
theorem lo_hi_nat (x y : Nat) (hy : y < 18446744073709551616) (hx : x < 18446744073709551616) : wrap64 (y : Int) = lo ((y + x * 18446744073709551616 : Nat) : Int) ∧ wrap64 (x : Int) = hi ((y + x * 18446744073709551616 : Nat) : Int) := by
  unfold lo hi wrap64; omega
theorem W_nat (a c : Int) : ∃ X Y P : Nat, U a = X ∧ U c = Y ∧ W a c = P ∧ P = Y * 18446744073709551616 + X ∧ X < 18446744073709551616 ∧ Y < 18446744073709551616 := by
  obtain ⟨a1, a2⟩ := U_bd a
  obtain ⟨b1, b2⟩ := U_bd c
  obtain ⟨X, hX⟩ := Int.eq_ofNat_of_zero_le a1
  obtain ⟨Y, hY⟩ := Int.eq_ofNat_of_zero_le b1
  refine ⟨X, Y, Y * 18446744073709551616 + X, hX, hY, ?_, rfl, by omega, by omega⟩
  unfold W
  omega
set_option maxRecDepth 100000 in
theorem divide_calls (w0 : World) (a c : Int) (P B : Nat) (hP : W a c = P) (hB : 0 < B) (hB2 : B < 18446744073709551616) (w : World) (h : Ext w0 w) :
    Calls Tryz.prog 282 #[.agg #[.int .i64 a, .int .i64 c], .int .u64 (B : Int)] w fun e w' => e = .returned (.tuple #[.int .u64 ((P % B : Nat) : Int), .agg #[.int .i64 (lo ((P / B : Nat) : Int)), .int .i64 (hi ((P / B : Nat) : Int))]]) ∧ Ext w0 w' := by
  obtain ⟨X, Y, P', hX, hY, hP', hPe, hXl, hYl⟩ := W_nat a c
  obtain rfl : P' = P := by omega
  have ea : IntKind.u64.wrap a = (X : Int) := by rw [← hX]; exact u64_wrap a
  have ec : IntKind.u64.wrap c = (Y : Int) := by rw [← hY]; exact u64_wrap c
  have hr1 : Y % B < B := Nat.mod_lt _ hB
  have hc1 := Lib.hid (fun w => div64_calls w 0 Y B hB hYl hB2 w (Ext.refl w))
  have hc2 := Lib.hid (fun w => div64_calls w (Y % B) X B hr1 hXl hB2 w (Ext.refl w))
  simp only [Nat.zero_mul, Nat.zero_add] at hc1
  obtain ⟨w1, w2⟩ := word_div Y X B hB
  rw [← hPe] at w1 w2
  have q1 : (Y % B * 18446744073709551616 + X) / B < 18446744073709551616 := by
    rw [Nat.div_lt_iff_lt_mul hB]
    calc Y % B * 18446744073709551616 + X < (Y % B + 1) * 18446744073709551616 := by omega
      _ ≤ B * 18446744073709551616 := Nat.mul_le_mul_right _ hr1
      _ = 18446744073709551616 * B := Nat.mul_comm _ _
  have q2 : Y / B < 18446744073709551616 := Nat.lt_of_le_of_lt (Nat.div_le_self _ _) hYl
  obtain ⟨l1, l2⟩ := lo_hi_nat (Y / B) ((Y % B * 18446744073709551616 + X) / B) q1 q2
  rw [w1] at l1 l2
  rw [← l1, ← l2]
  rw [w2] at hc2
  obtain ⟨ra, hra⟩ : ∃ r, r = Y % B := ⟨_, rfl⟩
  obtain ⟨qa, hqa⟩ : ∃ r, r = Y / B := ⟨_, rfl⟩
  rw [← hra] at hc1 hc2 ⊢
  rw [← hqa] at hc1 ⊢
  obtain ⟨qb, hqb⟩ : ∃ r, r = (ra * 18446744073709551616 + X) / B := ⟨_, rfl⟩
  obtain ⟨rb, hrb⟩ : ∃ r, r = P' % B := ⟨_, rfl⟩
  rw [← hqb] at hc2 ⊢
  rw [← hrb] at hc2 ⊢
  clear hX hY hP' hP hPe hXl hYl hr1 w1 w2 q1 q2 l1 l2 hra hqa hqb hrb hB hB2
  go_enter Tryz.func282, Tryz.ntmps282
  go_wp2_with fail
  refine (hc1.out _).mono ?_
  rintro e w1 ⟨rfl, hx1⟩
  have p0 := (Own.last (X := w) (x := Value.int .i64 a) (y := Value.int .i64 c) (t := 183)).alloc #[Value.int .i64 0, Value.int .i64 0] 183 |>.ext hx1
  have r0 := (Own.last (X := w.alloc (.cells #[Value.int .i64 a, Value.int .i64 c] 183)) (x := Value.int .i64 0) (y := Value.int .i64 0) (t := 183)).ext hx1
  rw [size_alloc] at r0
  have hX := ((h.cells _ _).cells _ _).trans hx1
  have hs0 := h.1.size
  clear h hx1 hc1
  have c0 := p0.c0
  have c1 := p0.c1
  go_wp2_with fail
  refine (hc2.out _).mono ?_
  rintro e w2 ⟨rfl, hx2⟩
  have r1 := r0.ext hx2
  have hX2 := hX.trans hx2
  clear hx2 hc2 p0 r0 hX c0 c1
  go_wp2_with fail
  refine (frombits_calls _ _ _ _ (Ext.refl _)).mono ?_
  rintro e w3 ⟨rfl, hx3⟩
  have r2 := r1.ext hx3
  have hX3 := hX2.trans hx3
  clear hx3 r1 hX2
  have c0 := r2.c0
  have c1 := r2.c1
  have f0 := r2.f0
  have f1 := r2.f1
  have lt := r2.lt
  go_wp2
  exact bodyPost_ret (v := .tuple #[.int .u64 (rb : Int), .agg #[.int .i64 (wrap64 (qb : Int)), .int .i64 (wrap64 (qa : Int))]]) (by simp [results, Tryz.results282, go_sem, c0, c1]) rfl ⟨rfl, hX3.set2 (by omega) _ _⟩
end Go.Proofs.YtifnkmddinoneaaGreatDoor
namespace Go.Proofs.YtifnkmddinoneaaGreatDoor
open Go.RowKit
set_option linter.unusedVariables false
theorem own2 (w : World) (a b c d : Value) : Own ((w.alloc (.cells #[a, b] 183)).alloc (.cells #[c, d] 183)) w.heap.size a b ∧ Own ((w.alloc (.cells #[a, b] 183)).alloc (.cells #[c, d] 183)) (w.heap.size + 1) c d := by
  refine ⟨Own.last.alloc _ _, ?_⟩
  have h := Own.last (X := w.alloc (.cells #[a, b] 183)) (x := c) (y := d) (t := 183)
  rwa [size_alloc] at h
end Go.Proofs.YtifnkmddinoneaaGreatDoor
namespace Go.Proofs.YtifnkmddinoneaaGreatDoor
open Go.RowKit
set_option linter.unusedVariables false
def okR (z ok : Bool) (r : Int) : Int := if z then 0 else if ok then r else 0
def okE (z ok : Bool) : Int := if z then -10 else if ok then 0 else -11
end Go.Proofs.YtifnkmddinoneaaGreatDoor
namespace Go.Proofs.YtifnkmddinoneaaGreatDoor
open Go.RowKit
set_option linter.unusedVariables false
theorem udiv_range (Q : Nat) (h : Q < 340282366920938463463374607431768211456) : (hi (Q : Int) == 0) = decide (Q ≤ 18446744073709551615) := by
  rw [Bool.eq_iff_iff]
  simp only [beq_iff_eq, decide_eq_true_eq]
  unfold hi wrap64
  omega
theorem udiv_zero (w0 : World) (a c r q : Int) (k : Bool) (w : World) (h : Ext w0 w) :
    Calls Tryz.prog 159 #[.agg #[.int .i64 a, .int .i64 c], .int .i64 0] w fun e w' => e = .returned (.tuple #[.int .i64 (okR true k r), .int .i64 (okR true k q), .int .i64 (okE true k)]) ∧ Ext w0 w' := by
  go_enter Tryz.func159, Tryz.ntmps159
  go_wp2
  go_ret3
  exact ⟨rfl, h.cells _ _⟩
set_option maxRecDepth 100000 in
theorem udiv_near (w0 : World) (a c b x y : Int) (R B : Nat) (hz2 : (b == 0) = false) (hz3 : ¬ b = 0) (eb : IntKind.u64.wrap b = (B : Int)) (hr : (y == 0) = true)
    (hdv : RowKit.Hid (∀ w, Calls Tryz.prog 282 #[.agg #[.int .i64 a, .int .i64 c], .int .u64 (B : Int)] w fun e w' => e = .returned (.tuple #[.int .u64 (R : Int), .agg #[.int .i64 x, .int .i64 y]]) ∧ Ext w w')) (w : World) (h : Ext w0 w) :
    Calls Tryz.prog 159 #[.agg #[.int .i64 a, .int .i64 c], .int .i64 b] w fun e w' => e = .returned (.tuple #[.int .i64 (wrap64 (R : Int)), .int .i64 x, .int .i64 0]) ∧ Ext w0 w' := by
  go_enter Tryz.func159, Tryz.ntmps159
  go_wp2_with fail
  have hs0 := h.1.size
  refine (hdv.out _).mono ?_
  rintro e w1 ⟨rfl, hx1⟩
  have hX := (h.cells _ _).trans hx1
  have lt := hX.1.size
  clear h hx1 hdv
  go_wp2_with fail
  go_region
  go_wp2
  go_ret3
  exact ⟨rfl, (hX.cells _ _).drew⟩
set_option maxRecDepth 100000 in
theorem udiv_far (w0 : World) (a c b x y : Int) (R B : Nat) (hz2 : (b == 0) = false) (hz3 : ¬ b = 0) (eb : IntKind.u64.wrap b = (B : Int)) (hr : (y == 0) = false)
    (hdv : RowKit.Hid (∀ w, Calls Tryz.prog 282 #[.agg #[.int .i64 a, .int .i64 c], .int .u64 (B : Int)] w fun e w' => e = .returned (.tuple #[.int .u64 (R : Int), .agg #[.int .i64 x, .int .i64 y]]) ∧ Ext w w')) (w : World) (h : Ext w0 w) :
    Calls Tryz.prog 159 #[.agg #[.int .i64 a, .int .i64 c], .int .i64 b] w fun e w' => e = .returned (.tuple #[.int .i64 0, .int .i64 0, .int .i64 (-11)]) ∧ Ext w0 w' := by
  go_enter Tryz.func159, Tryz.ntmps159
  go_wp2_with fail
  have hs0 := h.1.size
  refine (hdv.out _).mono ?_
  rintro e w1 ⟨rfl, hx1⟩
  have hX := (h.cells _ _).trans hx1
  have lt := hX.1.size
  clear h hx1 hdv
  go_wp2_with fail
  go_ret3
  exact ⟨rfl, hX.cells _ _⟩
theorem okR_near (r : Int) : okR false true r = r := rfl
theorem okE_near : okE false true = 0 := rfl
theorem okR_far (r : Int) : okR false false r = 0 := rfl
theorem okE_far : okE false false = -11 := rfl
theorem ediv_nat (P B : Nat) : (P : Int) / (B : Int) = ((P / B : Nat) : Int) := by rw [Int.natCast_ediv]
theorem emod_nat (P B : Nat) : (P : Int) % (B : Int) = ((P % B : Nat) : Int) := by rw [Int.natCast_emod]
theorem udiv_calls (w0 : World) (a c b : Int) (ha : I64 a) (hc : I64 c) (hb : I64 b) (w : World) (h : Ext w0 w) :
    Calls Tryz.prog 159 #[.agg #[.int .i64 a, .int .i64 c], .int .i64 b] w fun e w' => e = .returned (.tuple #[.int .i64 (okR (b == 0) (decide (W a c / U b ≤ 18446744073709551615)) (wrap64 (W a c % U b))), .int .i64 (okR (b == 0) (decide (W a c / U b ≤ 18446744073709551615)) (lo (W a c / U b))), .int .i64 (okE (b == 0) (decide (W a c / U b ≤ 18446744073709551615)))]) ∧ Ext w0 w' := by
  by_cases hz : b = 0
  · subst hz
    exact udiv_zero w0 a c _ _ _ w h
  · have hz2 : (b == 0) = false := by simpa using hz
    obtain ⟨w1, w2⟩ := W_bd a c
    obtain ⟨P, hP⟩ := Int.eq_ofNat_of_zero_le w1
    obtain ⟨u1, u2⟩ := U_bd b
    obtain ⟨B, hB⟩ := Int.eq_ofNat_of_zero_le u1
    have hB0 : 0 < B := by
      have : U b ≠ 0 := by unfold U; unfold I64 at hb; omega
      omega
    have eb : IntKind.u64.wrap b = (B : Int) := by rw [← hB]; exact u64_wrap b
    have hdv := Lib.hid (fun w => divide_calls w a c P B hP hB0 (by omega) w (Ext.refl w))
    have hlt : P / B < 340282366920938463463374607431768211456 := Nat.lt_of_le_of_lt (Nat.div_le_self _ _) (by omega)
    have hr := udiv_range (P / B) hlt
    rw [hP, hB, ediv_nat, emod_nat, hz2]
    have e3 : decide (((P / B : Nat) : Int) ≤ 18446744073709551615) = decide (P / B ≤ 18446744073709551615) := by rw [decide_eq_decide]; omega
    rw [e3]
    by_cases hq : P / B ≤ 18446744073709551615
    · have hd : decide (P / B ≤ 18446744073709551615) = true := decide_eq_true hq
      rw [hd] at hr ⊢
      rw [okR_near, okR_near, okE_near]
      exact udiv_near w0 a c b _ _ (P % B) B hz2 hz eb hr hdv w h
    · have hd : decide (P / B ≤ 18446744073709551615) = false := decide_eq_false hq
      rw [hd] at hr ⊢
      rw [okR_far, okR_far, okE_far]
      exact udiv_far w0 a c b _ _ (P % B) B hz2 hz eb hr hdv w h
end Go.Proofs.YtifnkmddinoneaaGreatDoor
namespace Go.Proofs.YtifnkmddinoneaaGreatDoor
open Go.RowKit
set_option linter.unusedVariables false
theorem ret_u8 {a b : Int} (h : a = b) : Ending.returned (.int .u8 a) = .returned (.int .u8 b) := by rw [h]
def hit (c : UInt8) (i : Nat) : Bool := letter i == c || (decide (9 < i) && letter i + 32 == c)
end Go.Proofs.YtifnkmddinoneaaGreatDoor
namespace Go.Proofs.YtifnkmddinoneaaGreatDoor
open Go.RowKit
set_option linter.unusedVariables false

theorem isbase_calls (b : Int) (w : World) : Calls Tryz.prog 326 #[.int .i64 b] w fun e w' => e = .returned (.bool (decide (2 ≤ b ∧ b ≤ 36))) ∧ w = w' := by
  by_cases h1 : 2 ≤ b
  · by_cases h2 : b ≤ 36
    · rw [decide_eq_true (And.intro h1 h2)]
      go_enter Tryz.func326, Tryz.ntmps326
      go_wp2
      go_ret
      exact ⟨rfl, rfl⟩
    · rw [decide_eq_false (fun h => h2 h.2)]
      have h3 : 36 < b := by omega
      go_enter Tryz.func326, Tryz.ntmps326
      go_wp2
      go_ret
      exact ⟨rfl, rfl⟩
  · rw [decide_eq_false (fun h => h1 h.1)]
    have h3 : b < 2 := by omega
    go_enter Tryz.func326, Tryz.ntmps326
    go_wp2
    go_ret
    exact ⟨rfl, rfl⟩
theorem letter_nat : ∀ n : Fin 36, (letter n.val).toNat = if n.val < 10 then 48 + n.val else 55 + n.val := by decide +kernel
theorem char_in (n : Nat) (h : n < 36) (w : World) : Calls Tryz.prog 356 #[.int .i64 (n : Int)] w fun e w' => e = .returned (.int .u8 ((letter n).toNat : Int)) ∧ w = w' := by
  have e := letter_nat ⟨n, h⟩
  simp only at e
  rw [e]
  clear e
  by_cases h1 : n < 10
  · rw [if_pos h1]
    have h2 : (n : Int) < 10 := by omega
    have h3 : (0 : Int) ≤ (n : Int) := by omega
    go_enter Tryz.func356, Tryz.ntmps356
    go_wp2
    go_ret
    exact ⟨ret_u8 (by simp), rfl⟩
  · rw [if_neg h1]
    have h2 : ¬ (n : Int) < 10 := by omega
    have h3 : (0 : Int) ≤ (n : Int) := by omega
    have h4 : (10 : Int) ≤ (n : Int) := by omega
    have h5 : (n : Int) < 36 := by omega
    go_enter Tryz.func356, Tryz.ntmps356
    go_wp2
    go_ret
    exact ⟨ret_u8 (by omega), rfl⟩
end Go.Proofs.YtifnkmddinoneaaGreatDoor
namespace Go.Proofs.YtifnkmddinoneaaGreatDoor
open Go.RowKit
set_option linter.unusedVariables false

theorem wrap_few (n : Nat) (h : n < 36) : wrap64 (n : Int) = (n : Int) ∧ U (n : Int) = (n : Int) ∧ I64 (n : Int) := by
  unfold I64 wrap64 U; omega
theorem U_few (b : Int) (B : Nat) (hb : b = B) (h : B ≤ 36) : U b = (B : Int) := by unfold U; omega
theorem W_two (a l : Int) (X n : Nat) (hX : U a = (X : Int)) (hl : U l = (n : Int)) : W a l = ((n * 18446744073709551616 + X : Nat) : Int) := by
  unfold W
  rw [hX, hl]
  omega
theorem dec_few (n : Nat) (h : n < 18446744073709551616) : decide ((n : Int) ≤ 18446744073709551615) = true := decide_eq_true (by omega)
theorem step_math (a c b : Int) (P B : Nat) (hP : W a c = P) (hb : b = B) (h2 : 2 ≤ B) (h36 : B ≤ 36) : ∃ l h1 r h2' : Int,
    W c 0 / U b = h1 ∧ wrap64 (W c 0 % U b) = l ∧ decide (h1 ≤ 18446744073709551615) = true ∧ W a l / U b = h2' ∧ wrap64 (W a l % U b) = r ∧ decide (h2' ≤ 18446744073709551615) = true
      ∧ lo h2' = lo ((P / B : Nat) : Int) ∧ lo h1 = hi ((P / B : Nat) : Int) ∧ r = ((P % B : Nat) : Int) ∧ I64 l := by
  obtain ⟨X, Y, P', hX, hY, hP', hPe, hXl, hYl⟩ := W_nat a c
  obtain rfl : P' = P := by omega
  have hU := U_few b B hb h36
  have hB0 : 0 < B := Nat.lt_of_lt_of_le (by decide) h2
  have hr : Y % B < B := Nat.mod_lt _ hB0
  have hr36 : Y % B < 36 := Nat.lt_of_lt_of_le hr h36
  have e1 : W c 0 = (Y : Int) := by rw [W_low, hY]
  obtain ⟨el, eU, eI⟩ := wrap_few (Y % B) hr36
  have e2 := W_two a ((Y % B : Nat) : Int) X (Y % B) hX eU
  obtain ⟨w1, w2⟩ := word_div Y X B hB0
  rw [← hPe] at w1 w2
  have q1 : (Y % B * 18446744073709551616 + X) / B < 18446744073709551616 := by
    rw [Nat.div_lt_iff_lt_mul hB0]
    calc Y % B * 18446744073709551616 + X < (Y % B + 1) * 18446744073709551616 := by rw [Nat.add_mul, Nat.one_mul]; exact Nat.add_lt_add_left hXl _
      _ ≤ B * 18446744073709551616 := Nat.mul_le_mul_right _ hr
      _ = 18446744073709551616 * B := Nat.mul_comm _ _
  have q2 : Y / B < 18446744073709551616 := Nat.lt_of_le_of_lt (Nat.div_le_self _ _) hYl
  obtain ⟨l1, l2⟩ := lo_hi_nat (Y / B) ((Y % B * 18446744073709551616 + X) / B) q1 q2
  rw [w1] at l1 l2
  have hr2 : P' % B < 36 := Nat.lt_of_lt_of_le (Nat.mod_lt _ hB0) h36
  refine ⟨((Y % B : Nat) : Int), ((Y / B : Nat) : Int), ((P' % B : Nat) : Int), (((Y % B * 18446744073709551616 + X) / B : Nat) : Int), ?_, ?_, ?_, ?_, ?_, ?_, ?_, ?_, rfl, ?_⟩
  · rw [e1, hU, ediv_nat]
  · rw [e1, hU, emod_nat, el]
  · exact dec_few _ q2
  · rw [e2, hU, ediv_nat]
  · rw [e2, hU, emod_nat, w2]; exact (wrap_few _ hr2).1
  · exact dec_few _ q1
  · exact l1
  · exact l2
  · exact eI
end Go.Proofs.YtifnkmddinoneaaGreatDoor
namespace Go.Proofs.YtifnkmddinoneaaGreatDoor
open Go.RowKit
set_option linter.unusedVariables false

set_option maxRecDepth 100000 in
theorem step_calls (a c b : Int) (ha : I64 a) (hc : I64 c) (P B : Nat) (hP : W a c = P) (hb : b = B) (h2 : 2 ≤ B) (h36 : B ≤ 36) (w : World) :
    Calls Tryz.prog 340 #[.agg #[.int .i64 a, .int .i64 c], .int .i64 b] w fun e w' => e = .returned (.tuple #[.agg #[.int .i64 (lo ((P / B : Nat) : Int)), .int .i64 (hi ((P / B : Nat) : Int))], .int .u8 ((letter (P % B)).toNat : Int)]) ∧ Ext w w' := by
  obtain ⟨l, q1, r, q2, m1, m2, m3, m4, m5, m6, m7, m8, m9, hl⟩ := step_math a c b P B hP hb h2 h36
  have hbI : I64 b := by unfold I64; omega
  have hz : (b == 0) = false := by simp; omega
  have hx := fun W' => udiv_calls W' c 0 b hc (by unfold I64; omega) hbI W' (Ext.refl W')
  rw [m1, m2, m3, hz, okR_near, okR_near, okE_near] at hx
  have c1 := Lib.hid hx
  clear hx
  have hx := fun W' => udiv_calls W' a l b ha hl hbI W' (Ext.refl W')
  rw [m4, m5, m6, hz, okR_near, okR_near, okE_near, m7, m9] at hx
  rw [m8] at c1
  have c2 := Lib.hid hx
  clear hx
  have hr := Lib.hid (isbase_calls b)
  have hR : P % B < 36 := Nat.lt_of_lt_of_le (Nat.mod_lt P (Nat.lt_of_lt_of_le (by decide) h2)) h36
  have hd : decide (2 ≤ b ∧ b ≤ 36) = true := decide_eq_true ⟨by omega, by omega⟩
  rw [hd] at hr
  clear m1 m2 m3 m4 m5 m6 m7 m8 m9 hP ha hc hbI hz hb h2 h36 hd hl
  obtain ⟨x, hx⟩ : ∃ x, x = lo ((P / B : Nat) : Int) := ⟨_, rfl⟩
  obtain ⟨y, hy⟩ : ∃ x, x = hi ((P / B : Nat) : Int) := ⟨_, rfl⟩
  obtain ⟨R, hRR⟩ : ∃ x, x = P % B := ⟨_, rfl⟩
  rw [← hx, ← hRR] at c2
  rw [← hy] at c1
  rw [← hx, ← hy, ← hRR]
  rw [← hRR] at hR
  clear hx hy hRR
  have cC := Lib.hid (char_in R hR)
  clear hR
  go_enter Tryz.func340, Tryz.ntmps340
  go_wp2_with fail
  refine (hr.out _).mono ?_
  rintro e w1 ⟨rfl, rfl⟩
  obtain ⟨o0, o1⟩ := own2 w (.int .i64 a) (.int .i64 c) (.int .i64 0) (.int .i64 0)
  have hX := ((Ext.refl w).cells #[.int .i64 a, .int .i64 c] 183).cells #[.int .i64 0, .int .i64 0] 183
  clear hr
  go_wp2_with fail
  refine (c1.out _).mono ?_
  rintro e w2 ⟨rfl, hx2⟩
  replace o0 := o0.ext hx2
  replace o1 := o1.ext hx2
  replace hX := hX.trans hx2
  clear hx2 c1
  have p0 := o0.c0
  have p1 := o0.c1
  go_wp2_with fail
  refine (c2.out _).mono ?_
  rintro e w3 ⟨rfl, hx3⟩
  replace o1 := o1.ext hx3
  replace hX := hX.trans hx3
  clear hx3 c2 p0 p1 o0
  have g0 := o1.c0
  have g1 := o1.c1
  have f0 := o1.f0
  have f1 := o1.f1
  have lt := o1.lt
  go_wp2_with fail
  refine (cC.out _).mono ?_
  rintro e w4 ⟨rfl, rfl⟩
  go_wp2_with fail
  have o9 := o1.set (.int .i64 x) (.int .i64 y)
  have k0 := o9.c0
  have k1 := o9.c1
  refine bodyPost_ret (v := .tuple #[.agg #[.int .i64 x, .int .i64 y], .int .u8 ((letter R).toNat : Int)]) ?_ rfl ⟨rfl, (hX.set2 (n := w.heap.size + 1) (by omega) _ _)⟩
  simp [results, Tryz.results340, go_sem, k0, k1]
end Go.Proofs.YtifnkmddinoneaaGreatDoor
namespace Go.Proofs.YtifnkmddinoneaaGreatDoor
open Go.RowKit
set_option linter.unusedVariables false

/-- The base that a text is read in, and how many letters tell it. -/
def pre (B : Nat) (l : List UInt8) : Nat × Nat := if l.head? = some 35 then (10, 1) else if l.head? = some 36 then (16, 1) else if l.head? = some 37 then (2, 1) else (B, 0)
end Go.Proofs.YtifnkmddinoneaaGreatDoor
namespace Go.Proofs.YtifnkmddinoneaaGreatDoor
open Go.RowKit
set_option linter.unusedVariables false
def sub (s : ByteArray) (k : Nat) : ByteArray := if k = 0 then s else s.extract k s.size
end Go.Proofs.YtifnkmddinoneaaGreatDoor
