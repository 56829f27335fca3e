/- Layer 3: at each call the program's answer is the document's. Condition: cells are integers of 64 bits, texts are of at most 1000000000 bytes. -/
import Derived.Test.YtoaijcahjmkkpaaC3Wrong
namespace Go.Proofs.Ytoaijcahjmkkpaa
open Go.RowKit
set_option linter.unusedVariables false

/-- f at xs returns v, whatever the world is, and leaves what was there. -/
def Ret (f : FuncId) (xs : Array Value) (v : Value) : Prop := ∀ W, Calls Try.prog f xs W fun e w' => e = .returned v ∧ Ext W w'
theorem Ret.held {f : FuncId} {xs : Array Value} {v : Value} (h : Ret f xs v) (S : World → Prop) (hS : ∀ W W', Ext W W' → S W → S W') (W : World) (hw : S W) : Calls Try.prog f xs W fun e w' => e = .returned v ∧ S w' :=
  (h W).mono fun e w' ⟨he, hx⟩ => ⟨he, hS W w' hx hw⟩
theorem Ret.same {f : FuncId} {xs : Array Value} {v : Value} (h : ∀ W, Calls Try.prog f xs W fun e w' => e = .returned v ∧ W = w') : Ret f xs v := fun W =>
  (h W).mono fun e w' ⟨he, hx⟩ => ⟨he, hx ▸ Ext.refl W⟩
theorem base_nat {b : Int} (h : 2 ≤ b ∧ b ≤ 36) : ∃ B : Nat, b = B ∧ 2 ≤ B ∧ B ≤ 36 := ⟨b.toNat, by omega, by omega, by omega⟩
theorem W_nat' (a c : Int) : ∃ P : Nat, W a c = P := ⟨(W a c).toNat, by have := W_bd a c; omega⟩

theorem both_step (a c b : Int) (ha : I64 a) (hc : I64 c) : ∃ x y : Int, ∃ u : Int,
    Ret 11 #[.agg #[.int .i64 a, .int .i64 c], .int .i64 b] (.tuple #[.agg #[.int .i64 x, .int .i64 y], .int .u8 u]) ∧ Ret 12 #[.agg #[.int .i64 a, .int .i64 c], .int .i64 b] (.tuple #[.agg #[.int .i64 x, .int .i64 y], .int .u8 u]) := by
  by_cases h : 2 ≤ b ∧ b ≤ 36
  · obtain ⟨B, hb, h2, h36⟩ := base_nat h
    obtain ⟨P, hP⟩ := W_nat' a c
    exact ⟨_, _, _, fun W => step_calls a c b ha hc P B hP hb h2 h36 W, fun W => rstep_calls W a c b ha hc P B hP hb h2 h36 W (Ext.refl W)⟩
  · exact ⟨_, _, _, fun W => step_wrong a c b h W, fun W => rstep_wrong a c b h W⟩
theorem both_text (a c b : Int) (ha : I64 a) (hc : I64 c) : ∃ t : ByteArray,
    Ret 15 #[.agg #[.int .i64 a, .int .i64 c], .int .i64 b] (.string t) ∧ Ret 16 #[.agg #[.int .i64 a, .int .i64 c], .int .i64 b] (.string t) := by
  by_cases h : 2 ≤ b ∧ b ≤ 36
  · obtain ⟨B, hb, h2, h36⟩ := base_nat h
    obtain ⟨P, hP⟩ := W_nat' a c
    exact ⟨_, fun W => text_calls a c b ha hc P B hP hb h2 h36 W, fun W => rtext_calls W a c b ha hc P B hP hb h2 h36 W (Ext.refl W)⟩
  · exact ⟨_, fun W => text_wrong a c b h W, fun W => rtext_wrong a c b h W⟩
theorem both_signed (a c b : Int) (ha : I64 a) (hc : I64 c) : ∃ t : ByteArray,
    Ret 17 #[.agg #[.int .i64 a, .int .i64 c], .int .i64 b] (.string t) ∧ Ret 18 #[.agg #[.int .i64 a, .int .i64 c], .int .i64 b] (.string t) := by
  by_cases h : 2 ≤ b ∧ b ≤ 36
  · obtain ⟨B, hb, h2, h36⟩ := base_nat h
    obtain ⟨P, hP⟩ := W_nat' a c
    exact ⟨_, fun W => signed_calls a c b ha hc P B hP hb h2 h36 W, fun W => rsigned_calls W a c b ha hc P B hP hb h2 h36 W (Ext.refl W)⟩
  · exact ⟨_, fun W => signed_wrong a c b h W, fun W => rsigned_wrong a c b h W⟩
theorem both_char (n : Int) : ∃ u : Int, Ret 19 #[.int .i64 n] (.int .u8 u) ∧ Ret 20 #[.int .i64 n] (.int .u8 u) := by
  by_cases h : 0 ≤ n ∧ n ≤ 35
  · obtain ⟨k, rfl⟩ := Int.eq_ofNat_of_zero_le h.1
    exact ⟨_, Ret.same (char_in k (by omega)), Ret.same (rchar_in k (by omega))⟩
  · exact ⟨_, Ret.same (char_out n (by omega)), Ret.same (rchar_out n (by omega))⟩
theorem both_value (c : UInt8) (b : Int) : ∃ (d : Int) (k : Bool), Ret 13 #[.int .u8 (c.toNat : Int), .int .i64 b] (.tuple #[.int .i64 d, .bool k]) ∧ Ret 14 #[.int .u8 (c.toNat : Int), .int .i64 b] (.tuple #[.int .i64 d, .bool k]) :=
  ⟨_, _, Ret.same (value_calls c b), Ret.same (rvalue_calls c b)⟩
theorem both_accept (a c b : Int) (ha : I64 a) (hc : I64 c) (s : ByteArray) (hs : s.size ≤ 1000000000) : ∃ x y n : Int,
    Ret 21 #[.agg #[.int .i64 a, .int .i64 c], .string s, .int .i64 b] (.tuple #[.agg #[.int .i64 x, .int .i64 y], .int .i64 n]) ∧ Ret 23 #[.agg #[.int .i64 a, .int .i64 c], .string s, .int .i64 b] (.tuple #[.agg #[.int .i64 x, .int .i64 y], .int .i64 n]) := by
  by_cases h : 2 ≤ b ∧ b ≤ 36
  · obtain ⟨B, hb, h2, h36⟩ := base_nat h
    obtain ⟨P, hP⟩ := W_nat' a c
    exact ⟨_, _, _, fun W => accept_calls a c b ha hc s hs P B hP hb h2 h36 W, fun W => raccept_calls W a c b ha hc s hs P B hP hb h2 h36 W (Ext.refl W)⟩
  · exact ⟨_, _, _, fun W => accept_wrong a c b s hs h W, fun W => raccept_wrong a c b s hs h W⟩
theorem both_number (s : ByteArray) (hs : s.size ≤ 1000000000) (b : Int) : ∃ x y n : Int,
    Ret 24 #[.string s, .int .i64 b] (.tuple #[.agg #[.int .i64 x, .int .i64 y], .int .i64 n]) ∧ Ret 25 #[.string s, .int .i64 b] (.tuple #[.agg #[.int .i64 x, .int .i64 y], .int .i64 n]) := by
  by_cases h : 2 ≤ b ∧ b ≤ 36
  · obtain ⟨B, rfl, h2, h36⟩ := base_nat h
    by_cases h0 : 0 < s.size
    · exact ⟨_, _, _, fun W => number_calls s hs B h2 h36 W, fun W => rnumber_calls W s hs h0 B h2 h36 W (Ext.refl W)⟩
    · obtain rfl := no_byte s h0
      refine ⟨0, 0, 0, fun W => ?_, fun W => rnumber_nil B h2 h36 W⟩
      have hx := number_calls ⟨#[]⟩ hs B h2 h36 W
      rw [show (⟨#[]⟩ : ByteArray).data.toList = [] from rfl, num_nil] at hx
      exact hx
  · exact ⟨_, _, _, fun W => number_wrong s b h W, fun W => rnumber_wrong s b h W⟩
/-- The first 200 bytes of a text. -/
def fewOf (s : ByteArray) : ByteArray := s.extract 0 (min s.size 200)
theorem few_size (s : ByteArray) : (fewOf s).size ≤ 200 := by unfold fewOf; rw [ByteArray.size_extract]; omega
theorem few_calls (s : ByteArray) (hs : s.size ≤ maxLen) (w : World) : Calls Try.prog 22 #[.string s] w fun e w' => e = .returned (.string (fewOf s)) ∧ w = w' := by
  unfold maxLen at hs
  unfold fewOf
  go_enter Try.func22, Try.ntmps22
  go_wp2
  go_ret
  refine ⟨?_, rfl⟩
  have e : (min (s.size : Int) 200).toNat = min s.size 200 := by omega
  rw [← e]
  rfl
theorem is_calls (c : UInt8) (b : Int) (w : World) : Calls Try.prog 26 #[.int .u8 (c.toNat : Int), .int .i64 b] w fun e w' => e = .returned (.bool (vB c b.toNat)) ∧ w = w' := by
  have hv := Lib.hid (value_calls c b)
  go_enter Try.func26, Try.ntmps26
  go_wp2_with fail
  refine (hv.out _).mono ?_
  rintro e w1 ⟨rfl, rfl⟩
  go_wp2_with fail
  go_ret
  exact ⟨rfl, rfl⟩
theorem number_shown (W : World) : Calls Try.prog 24 #[.string ⟨#[36, 45, 102, 102, 46]⟩, .int .i64 10] W fun e w' => e = .returned (.tuple #[.agg #[.int .i64 (-255), .int .i64 (-1)], .int .i64 2]) ∧ Ext W w' := by
  have h := number_calls ⟨#[36, 45, 102, 102, 46]⟩ (by decide) 10 (by decide) (by decide) W
  rw [show numOf 10 (⟨#[36, 45, 102, 102, 46]⟩ : ByteArray).data.toList = (-255, -1, 2) by decide +kernel] at h
  exact h
theorem signed_shown (W0 : World) : Calls Try.prog 17 #[.agg #[.int .i64 (-255), .int .i64 (-1)], .int .i64 16] W0 fun e w' => e = .returned (.string ⟨#[45, 70, 70]⟩) ∧ Ext W0 w' := by
  have h := signed_calls (-255) (-1) 16 (by unfold I64; omega) (by unfold I64; omega) 340282366920938463463374607431768211201 16 (by decide +kernel) rfl (by decide) (by decide) W0
  rw [show signed 16 340282366920938463463374607431768211201 (V (-255) (-1)) = [45, 70, 70] by decide +kernel] at h
  exact h
set_option maxRecDepth 100000 in
theorem shown3_calls (w : World) : Calls Try.prog 10 #[] w fun e w' => e = .returned (.bool true) ∧ Ext w w' := by
  have cN := Lib.hid number_shown
  have cS := Lib.hid signed_shown
  go_enter Try.func10, Try.ntmps10
  go_wp2_with fail
  refine (cN.out _).mono ?_
  rintro e w1 ⟨rfl, hx⟩
  have o := Own.last (X := w1) (x := Value.int .i64 (-255)) (y := Value.int .i64 (-1)) (t := 24)
  replace hx := hx.cells #[.int .i64 (-255), .int .i64 (-1)] 24
  go_wp2_with fail
  refine (cS.out _).mono ?_
  rintro e w2 ⟨rfl, hy⟩
  replace o := o.ext hy
  replace hx := hx.trans hy
  clear hy
  have c0 := o.c0
  have c1 := o.c1
  go_wp2_with fail
  go_ret
  exact ⟨rfl, hx⟩
end Go.Proofs.Ytoaijcahjmkkpaa
