/- Layer 4: is a cell no number; RealOrders's own closure; order turned round. No condition. -/
import Derived.Test.YthmdobajilladaaDoorR4H
import Derived.Lib.Walk
namespace Go.Proofs.YthmdobajilladaaDoor
open Go.RowKit Ieee
set_option linter.unusedVariables false

theorem body_not_nan (s : Bool) (r : Nat) : realText s r ≠ [110, 97, 110] := by
  have hb : bodyText r ≠ [110, 97, 110] := by
    unfold bodyText
    by_cases c0 : r = 0
    · rw [if_pos c0]; decide
    · rw [if_neg c0]
      by_cases c1 : r = 9218868437227405312
      · rw [if_pos c1]; decide
      · rw [if_neg c1]
        intro h
        have m : (112 : UInt8) ∈ uText r := by unfold uText; simp
        rw [h] at m
        exact absurd m (by decide)
  unfold realText
  cases s
  · rw [if_neg (by decide)]; exact hb
  · rw [if_pos rfl]
    intro h
    injection h with h1
    exact absurd h1 (by decide)
theorem toList_mk (l : List UInt8) : (⟨l.toArray⟩ : ByteArray).toList = l := by
  rw [Lib.toList_data]
theorem none_nan (a : Int) (h : isN (fbits a) = true) (w : World) : Calls Tryd.prog 15 #[.int .i64 a] w fun e w' => e = .returned (.bool true) ∧ Far w w' := by
  have ht := Lib.hid (text_nan a h)
  clear h
  go_enter Tryd.func15, Tryd.ntmps15
  go_wp2_with fail
  refine (ht.out _).mono ?_
  rintro e w1 ⟨rfl, hx⟩
  go_wp2_with fail
  go_ret
  exact ⟨rfl, hx⟩
theorem none_num (a : Int) (s : Bool) (r : Nat) (hx : fbits a = double.word s r) (hi : r ≤ 9218868437227405312) (w : World) (g : Good w) : Calls Tryd.prog 15 #[.int .i64 a] w fun e w' => e = .returned (.bool false) ∧ Far w w' := by
  have ht := Lib.hid (text_word a s r hx hi w g)
  have hq : ((⟨(realText s r).toArray⟩ : ByteArray).toList == [110, 97, 110]) = false := by
    rw [toList_mk]
    exact beq_eq_false_iff_ne.2 (body_not_nan s r)
  generalize (⟨(realText s r).toArray⟩ : ByteArray) = T at *
  clear hx hi g
  go_enter Tryd.func15, Tryd.ntmps15
  go_wp2_with fail
  refine ht.out.mono ?_
  rintro e w1 ⟨rfl, hx⟩
  go_wp2_with fail
  go_ret
  exact ⟨rfl, hx⟩
/-- Each float is no number, or a sign and a rung. -/
theorem fbits_split (a : Int) : isN (fbits a) = true ∨ ∃ s r, fbits a = double.word s r ∧ r ≤ 9218868437227405312 := by
  have h := word_split (fbits a) (fbits_lt a)
  have hr : fbits a % 9223372036854775808 < 9223372036854775808 := Nat.mod_lt _ (by decide)
  by_cases k : fbits a % 9223372036854775808 ≤ 9218868437227405312
  · exact Or.inr ⟨_, _, h, k⟩
  · left
    rw [h]
    unfold isN
    rw [read_word _ _ hr, if_neg (by omega), if_neg (by omega)]
    rfl
/-- RealOrders's own closure. -/
theorem two_o (op p q c : Int) (h : ∀ W, Calls Tryd.prog 14 #[.int .i64 op, .int .i64 p, .int .i64 q] W fun e w' => e = .returned (.tuple #[.int .i64 c, .int .i64 0]) ∧ Ext W w') (w : World) :
    Calls Tryd.prog 13 #[.int .i64 op, .int .i64 p, .int .i64 q] w fun e w' => e = .returned (.int .i64 c) ∧ Far w w' := by
  have H := Lib.hid h
  clear h
  go_enter Tryd.func13, Tryd.ntmps13
  go_wp2_with fail
  refine (H.out _).mono ?_
  rintro e w1 ⟨rfl, hx⟩
  go_wp2_with fail
  go_ret
  exact ⟨rfl, hx.far⟩
theorem compare_swap (x y : Int) : compare y x = (compare x y).swap := by
  rcases Int.lt_trichotomy x y with h | h | h
  · rw [Int.compare_eq_lt.2 h, Int.compare_eq_gt.2 h]; rfl
  · subst h; simp
  · rw [Int.compare_eq_gt.2 h, Int.compare_eq_lt.2 h]; rfl
theorem order_swap (x y : Nat) : double.order y x = (double.order x y).map Ordering.swap := by
  unfold Format.order
  cases double.read x with
  | nan s t => cases double.read y <;> rfl
  | infinity s =>
    cases double.read y with
    | nan s t => rfl
    | infinity t => cases s <;> cases t <;> rfl
    | number t n j => cases s <;> rfl
  | number s m i =>
    cases double.read y with
    | nan s t => rfl
    | infinity t => cases t <;> rfl
    | number t n j =>
      simp only [Datum.order, Option.map_some]
      rw [Int.min_comm j i, compare_swap]
theorem order_none_l (x y : Nat) (h : isN x = true) : double.order x y = none := by
  unfold isN at h
  unfold Format.order
  cases k : double.read x with
  | nan s t => rfl
  | infinity s => rw [k] at h; cases h
  | number s m i => rw [k] at h; cases h
theorem order_none_r (x y : Nat) (h : isN y = true) : double.order x y = none := by
  rw [order_swap, order_none_l y x h]; rfl
theorem order_some (x y : Nat) (hx : isN x = false) (hy : isN y = false) : ∃ c, double.order x y = some c := by
  unfold isN at hx hy
  unfold Format.order
  cases k : double.read x with
  | nan s t => rw [k] at hx; cases hx
  | infinity s =>
    cases j : double.read y with
    | nan s t => rw [j] at hy; cases hy
    | infinity t => exact ⟨_, rfl⟩
    | number t n j => exact ⟨_, rfl⟩
  | number s m i =>
    cases j : double.read y with
    | nan s t => rw [j] at hy; cases hy
    | infinity t => exact ⟨_, rfl⟩
    | number t n j => exact ⟨_, rfl⟩
end Go.Proofs.YthmdobajilladaaDoor
