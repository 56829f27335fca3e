/- The contracts of the small functions of the statements of layer 1: they return what twoV and oneV tell, and nothing that was there changes. No condition. -/
import Derived.Test.YtfamnlomkbogoaaC1Two
namespace Go.Proofs.Ytfamnlomkbogoaa
open Go.RowKit
set_option linter.unusedVariables false

theorem two_ext (w0 : World) (op a b : Int) (w : World) (h : Ext w0 w) :
    Calls Try.prog 13 #[.int .i64 op, .int .i64 a, .int .i64 b] w fun e w' => e = .returned (.tuple #[.int .i64 (twoV op a b), .int .i64 (twoE op b)]) ∧ Ext w0 w' :=
  (two_calls op a b w).mono fun e w' ⟨he, hw⟩ => ⟨he, hw ▸ h.map _ _⟩
theorem one_ext (w0 : World) (op a : Int) (w : World) (h : Ext w0 w) :
    Calls Try.prog 11 #[.int .i64 op, .int .i64 a] w fun e w' => e = .returned (.tuple #[.int .i64 (oneV op a), .int .i64 (oneE op)]) ∧ Ext w0 w' :=
  (one_calls op a w).mono fun e w' ⟨he, hw⟩ => ⟨he, hw ▸ h⟩

set_option maxRecDepth 100000 in
theorem shown_calls (w0 w : World) (h : Ext w0 w) : Calls Try.prog 10 #[] w fun e w' => e = .returned (.bool true) ∧ Ext w0 w' := by
  have e1 : twoV 14 (-7) 2 = -4 := by decide +kernel
  have e2 : twoV 15 (-7) 2 = 1 := by decide +kernel
  have e3 : twoV 20 (-1) 60 = 15 := by decide +kernel
  have e4 : twoE 14 2 = 0 := by decide +kernel
  have e5 : twoE 15 2 = 0 := by decide +kernel
  have e6 : twoE 20 60 = 0 := by decide +kernel
  go_enter Try.func10, Try.ntmps10
  go_wp2_with (go_at_call 13; refine (two_ext w0 _ _ _ _ (by assumption)).mono ?_; rintro e w' ⟨rfl, hx⟩)
  go_ret
  exact ⟨rfl, by assumption⟩

set_option maxRecDepth 100000 in
theorem carries_two (w0 : World) (op a b : Int) (w : World) (h : Ext w0 w) : Calls Try.prog 24 #[.int .i64 op, .int .i64 a, .int .i64 b] w fun e w' => e = .returned (.int .i64 (twoV op a b)) ∧ Ext w0 w' := by
  go_enter Try.func24, Try.ntmps24
  go_wp2_with (go_at_call 13; refine (two_ext w0 _ _ _ _ (by assumption)).mono ?_; rintro e w' ⟨rfl, hx⟩)
  go_ret
  exact ⟨rfl, by assumption⟩
set_option maxRecDepth 100000 in
theorem logic_two (w0 : World) (op a b : Int) (w : World) (h : Ext w0 w) : Calls Try.prog 19 #[.int .i64 op, .int .i64 a, .int .i64 b] w fun e w' => e = .returned (.int .i64 (twoV op a b)) ∧ Ext w0 w' := by
  go_enter Try.func19, Try.ntmps19
  go_wp2_with (go_at_call 13; refine (two_ext w0 _ _ _ _ (by assumption)).mono ?_; rintro e w' ⟨rfl, hx⟩)
  go_ret
  exact ⟨rfl, by assumption⟩
set_option maxRecDepth 100000 in
theorem orders_two (w0 : World) (op a b : Int) (w : World) (h : Ext w0 w) : Calls Try.prog 21 #[.int .i64 op, .int .i64 a, .int .i64 b] w fun e w' => e = .returned (.int .i64 (twoV op a b)) ∧ Ext w0 w' := by
  go_enter Try.func21, Try.ntmps21
  go_wp2_with (go_at_call 13; refine (two_ext w0 _ _ _ _ (by assumption)).mono ?_; rintro e w' ⟨rfl, hx⟩)
  go_ret
  exact ⟨rfl, by assumption⟩
set_option maxRecDepth 100000 in
theorem ones_two (w0 : World) (op a b : Int) (w : World) (h : Ext w0 w) : Calls Try.prog 23 #[.int .i64 op, .int .i64 a, .int .i64 b] w fun e w' => e = .returned (.int .i64 (twoV op a b)) ∧ Ext w0 w' := by
  go_enter Try.func23, Try.ntmps23
  go_wp2_with (go_at_call 13; refine (two_ext w0 _ _ _ _ (by assumption)).mono ?_; rintro e w' ⟨rfl, hx⟩)
  go_ret
  exact ⟨rfl, by assumption⟩
set_option maxRecDepth 100000 in
theorem logic_not (w0 : World) (a : Int) (w : World) (h : Ext w0 w) : Calls Try.prog 20 #[.int .i64 a] w fun e w' => e = .returned (.int .i64 (oneV 3 a)) ∧ Ext w0 w' := by
  go_enter Try.func20, Try.ntmps20
  go_wp2_with (go_at_call 11; refine (one_ext w0 _ _ _ (by assumption)).mono ?_; rintro e w' ⟨rfl, hx⟩)
  go_ret
  exact ⟨rfl, by assumption⟩
set_option maxRecDepth 100000 in
theorem ones_one (w0 : World) (op a : Int) (w : World) (h : Ext w0 w) : Calls Try.prog 22 #[.int .i64 op, .int .i64 a] w fun e w' => e = .returned (.int .i64 (oneV op a)) ∧ Ext w0 w' := by
  go_enter Try.func22, Try.ntmps22
  go_wp2_with (go_at_call 11; refine (one_ext w0 _ _ _ (by assumption)).mono ?_; rintro e w' ⟨rfl, hx⟩)
  go_ret
  exact ⟨rfl, by assumption⟩

end Go.Proofs.Ytfamnlomkbogoaa
