/- The document's answers for layer 4: signs, what a cell is. Condition: cells are integers of 64 bits. -/
import Derived.Test.YthmdobajilladaaDoorR4H
import Derived.Test.YthmdobajilladaaDoorC2RefA
import Derived.Test.YthmdobajilladaaDoorJF
import Derived.Deep.DeepCutAuto
namespace Go.Proofs.YthmdobajilladaaDoor
open Go.RowKit
set_option linter.unusedVariables false

open Ieee (double)
theorem rsigned4 (s : Bool) (x : Int) (h0 : 0 ≤ x) (h1 : x < 9223372036854775808) (w : World) : Calls Tryd.prog 28 #[.bool s, .int .u64 x] w fun e w' => e = .returned (.int .i64 (wrap64 (if s then x + 9223372036854775808 else x))) ∧ w = w' := by
  cases s
  · go_enter Tryd.func28, Tryd.ntmps28
    go_wp2
    go_ret
    exact ⟨ret_i64 (IntWalk.wrap64_in x ⟨by omega, by omega⟩).symm, rfl⟩
  · go_enter Tryd.func28, Tryd.ntmps28
    go_wp2
    go_ret
    exact ⟨ret_i64 rfl, rfl⟩
theorem cell_word (s : Bool) (r : Nat) (h : r ≤ 9218868437227405312) : wrap64 (if s then (r : Int) + 9223372036854775808 else (r : Int)) = cellOf (double.word s r) := by
  have e : cellOf (double.word s r) = wrap64 ((double.word s r : Nat) : Int) := by unfold cellOf; rw [isN_word s h, if_neg Bool.false_ne_true]
  rw [e, word_d]
  cases s
  · simp
  · have e2 : ((9223372036854775808 : Nat) : Int) = 9223372036854775808 := rfl
    rw [if_pos rfl, if_pos rfl, Int.natCast_add, Int.add_comm, e2]
theorem rinf4 (s : Bool) (w : World) : Calls Tryd.prog 64 #[.bool s] w fun e w' => e = .returned (.int .i64 (cellOf (double.word s 9218868437227405312))) ∧ w = w' := by
  have h := Lib.hid (rsigned4 s 9218868437227405312 (by decide) (by decide))
  rw [← cell_word s 9218868437227405312 (by decide)]
  show Calls _ _ _ _ fun e w' => e = .returned (.int .i64 (wrap64 (if s = true then (9218868437227405312 : Int) + 9223372036854775808 else 9218868437227405312))) ∧ w = w'
  generalize wrap64 (if s = true then (9218868437227405312 : Int) + 9223372036854775808 else 9218868437227405312) = c at *
  go_enter Tryd.func64, Tryd.ntmps64
  go_wp2_with fail
  refine (h.out _).mono ?_
  rintro e w1 ⟨rfl, rfl⟩
  go_wp2_with fail
  go_ret
  exact ⟨rfl, rfl⟩
set_option maxHeartbeats 2000000 in
set_option maxRecDepth 100000 in
theorem ropen_fin (f : Int) (X m q : Nat) (s : Bool) (hs : decide (f < 0) = s) (ex : IntKind.u64.wrap f = (X : Int)) (em : (X : Int) % 4503599627370496 = (m : Int)) (ee : (X : Int) / 4503599627370496 % 2048 = (q : Int)) (hm : m < 4503599627370496) (h0 : q ≠ 0) (h1 : q < 2047) (hX : X < 18446744073709551616) (w : World) :
    Calls Tryd.prog 30 #[.int .i64 f] w fun e w' => e = .returned (.agg #[.int .i64 2, .bool s, .int .u64 ((m : Int) + 4503599627370496), .int .i64 ((q : Int) - 1075)]) ∧ Ext w w' := by
  have X0 : (0 : Int) ≤ (X : Int) := by omega
  have X1 : (X : Int) < 18446744073709551616 := by omega
  have q1 : ((q : Int) == 2047) = false := by simp; omega
  have q2 : ((q : Int) == 0) = false := by simp; omega
  have hm0 : (m : Int) < 4503599627370496 := by omega
  have hq0 : (q : Int) < 2047 := by omega
  go_enter Tryd.func30, Tryd.ntmps30
  go_wp2
  exact bodyPost_ret (v := .agg #[.int .i64 2, .bool s, .int .u64 ((m : Int) + 4503599627370496), .int .i64 ((q : Int) - 1075)]) (by simp [results, Tryd.results30, go_sem]) rfl ⟨rfl, ((Ext.refl _).cells _ _).cells _ _⟩
set_option maxHeartbeats 2000000 in
set_option maxRecDepth 100000 in
theorem ropen_sub (f : Int) (X m : Nat) (s : Bool) (hs : decide (f < 0) = s) (ex : IntKind.u64.wrap f = (X : Int)) (em : (X : Int) % 4503599627370496 = (m : Int)) (ee : (X : Int) / 4503599627370496 % 2048 = 0) (hm : m < 4503599627370496) (hX : X < 18446744073709551616) (w : World) :
    Calls Tryd.prog 30 #[.int .i64 f] w fun e w' => e = .returned (.agg #[.int .i64 2, .bool s, .int .u64 (m : Int), .int .i64 (-1074)]) ∧ Ext w w' := by
  have X0 : (0 : Int) ≤ (X : Int) := by omega
  have X1 : (X : Int) < 18446744073709551616 := by omega
  go_enter Tryd.func30, Tryd.ntmps30
  go_wp2
  exact bodyPost_ret (v := .agg #[.int .i64 2, .bool s, .int .u64 (m : Int), .int .i64 (-1074)]) (by simp [results, Tryd.results30, go_sem]) rfl ⟨rfl, ((Ext.refl _).cells _ _).cells _ _⟩
set_option maxHeartbeats 2000000 in
set_option maxRecDepth 100000 in
theorem ropen_inf (f : Int) (X : Nat) (s : Bool) (hs : decide (f < 0) = s) (ex : IntKind.u64.wrap f = (X : Int)) (em : (X : Int) % 4503599627370496 = 0) (ee : (X : Int) / 4503599627370496 % 2048 = 2047) (hX : X < 18446744073709551616) (w : World) :
    Calls Tryd.prog 30 #[.int .i64 f] w fun e w' => e = .returned (.agg #[.int .i64 1, .bool s, .int .u64 0, .int .i64 0]) ∧ Ext w w' := by
  have X0 : (0 : Int) ≤ (X : Int) := by omega
  have X1 : (X : Int) < 18446744073709551616 := by omega
  go_enter Tryd.func30, Tryd.ntmps30
  go_wp2
  exact bodyPost_ret (v := .agg #[.int .i64 1, .bool s, .int .u64 0, .int .i64 0]) (by simp [results, Tryd.results30, go_sem]) rfl ⟨rfl, ((Ext.refl _).cells _ _).cells _ _⟩
set_option maxHeartbeats 2000000 in
set_option maxRecDepth 100000 in
theorem ropen_nan (f : Int) (X m : Nat) (s : Bool) (hs : decide (f < 0) = s) (ex : IntKind.u64.wrap f = (X : Int)) (em : (X : Int) % 4503599627370496 = (m : Int)) (ee : (X : Int) / 4503599627370496 % 2048 = 2047) (hm : ((m : Int) != 0) = true) (hX : X < 18446744073709551616) (w : World) :
    Calls Tryd.prog 30 #[.int .i64 f] w fun e w' => e = .returned (.agg #[.int .i64 0, .bool s, .int .u64 (m : Int), .int .i64 0]) ∧ Ext w w' := by
  have X0 : (0 : Int) ≤ (X : Int) := by omega
  have X1 : (X : Int) < 18446744073709551616 := by omega
  go_enter Tryd.func30, Tryd.ntmps30
  go_wp2
  exact bodyPost_ret (v := .agg #[.int .i64 0, .bool s, .int .u64 (m : Int), .int .i64 0]) (by simp [results, Tryd.results30, go_sem]) rfl ⟨rfl, ((Ext.refl _).cells _ _).cells _ _⟩
end Go.Proofs.YthmdobajilladaaDoor
