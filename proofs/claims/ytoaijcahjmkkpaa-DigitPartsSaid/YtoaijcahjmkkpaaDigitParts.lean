/- DigitParts: for all arguments given, the call returns true and the arguments read as before. No condition. -/
import Derived.Test.YtoaijcahjmkkpaaRows
import Derived.Test.YtoaijcahjmkkpaaC3Num
import Derived.Test.YtoaijcahjmkkpaaLawKit
import Derived.WalkKit
import Derived.ProofKit
import Derived.OpenShut
import Derived.ChangeMaps5
namespace Go.Proofs.Ytoaijcahjmkkpaa.digitParts
open Go.ChangeShapes Go.WideShapes Go.ChangeAt Go.RowKit Go.ChangeMaps
set_option linter.unusedVariables false

theorem own : ownKnob Try.prog.godebug = none := by kernel_rfl

theorem acc_lt (b : Nat) : ∀ (l : List UInt8) (p : Nat), p < two128 → (acc b p l).1 < two128 := by
  intro l
  induction l with
  | nil => intro p h; exact h
  | cons c l ih =>
    intro p h
    cases hv : valueOf c b with
    | none => rw [acc_none hv]; exact h
    | some d => rw [acc_some hv]; exact ih _ (Nat.mod_lt _ (by unfold two128; omega))
set_option maxRecDepth 100000 in
set_option maxHeartbeats 2000000 in
theorem way_left (s t x y : ByteArray) (b p0 p1 q0 q1 n m : Int)
    (cF : RowKit.Hid (∀ w, Calls Try.prog 22 #[.string s] w fun e w' => e = .returned (.string x) ∧ w = w')) (cG : RowKit.Hid (∀ w, Calls Try.prog 22 #[.string t] w fun e w' => e = .returned (.string y) ∧ w = w'))
    (cA : Ret 21 #[.agg #[.int .i64 0, .int .i64 0], .string x, .int .i64 b] (.tuple #[.agg #[.int .i64 p0, .int .i64 p1], .int .i64 n]))
    (cB : Ret 21 #[.agg #[.int .i64 0, .int .i64 0], .string (x ++ y), .int .i64 b] (.tuple #[.agg #[.int .i64 q0, .int .i64 q1], .int .i64 m]))
    (hadd : ∀ W, (Op.stringOp .add x y).run Try.prog W = .ok (.string (x ++ y)) W) (hs : y.size ≤ 200)
    (hq0 : p0 = q0) (hq1 : p1 = q1) (hn : 0 < n) (hn2 : n ≤ 200) (hm : m = n + (y.size : Int)) (w : World) :
    Calls Try.prog 6 #[.string s, .string t, .int .i64 b] w fun e w' => e = .returned (.bool true) ∧ Ext w w' := by
  subst hq0 hq1 hm
  have hs2 : (y.size : Int) ≤ 200 := by omega
  go_enter Try.func6, Try.ntmps6
  try simp only [List.append]
  go_wp2_with fail
  refine (shown3_calls _).mono ?_
  rintro e y0 ⟨rfl, hX⟩
  go_wp2_with fail
  refine (cF.out _).mono ?_
  rintro e y1 ⟨rfl, rfl⟩
  go_wp2_with fail
  refine (cG.out _).mono ?_
  rintro e y1 ⟨rfl, rfl⟩
  go_wp2_with fail
  refine (cA _).mono ?_
  rintro e y1 ⟨rfl, hx⟩
  replace hX := (hX.trans hx).cells #[.int .i64 p0, .int .i64 p1] 24
  clear hx
  have o1 := Own.last (X := y1) (x := Value.int .i64 p0) (y := Value.int .i64 p1) (t := 24)
  go_wp2_with fail
  refine (cB _).mono ?_
  rintro e y2 ⟨rfl, hx⟩
  replace o1 := (o1.ext hx).alloc #[.int .i64 p0, .int .i64 p1] 24
  replace hX := (hX.trans hx).cells #[.int .i64 p0, .int .i64 p1] 24
  clear hx
  have o2 := Own.last (X := y2) (x := Value.int .i64 p0) (y := Value.int .i64 p1) (t := 24)
  have o1c0 := o1.c0
  have o1c1 := o1.c1
  have o2c0 := o2.c0
  have o2c1 := o2.c1
  have o1l := o1.lt
  go_wp2_with fail
  go_ret
  exact ⟨rfl, hX⟩
set_option maxRecDepth 100000 in
set_option maxHeartbeats 2000000 in
theorem way_none (s t x y : ByteArray) (b p0 p1 q0 q1 n m : Int)
    (cF : RowKit.Hid (∀ w, Calls Try.prog 22 #[.string s] w fun e w' => e = .returned (.string x) ∧ w = w')) (cG : RowKit.Hid (∀ w, Calls Try.prog 22 #[.string t] w fun e w' => e = .returned (.string y) ∧ w = w'))
    (cA : Ret 21 #[.agg #[.int .i64 0, .int .i64 0], .string x, .int .i64 b] (.tuple #[.agg #[.int .i64 p0, .int .i64 p1], .int .i64 n]))
    (cB : Ret 21 #[.agg #[.int .i64 0, .int .i64 0], .string (x ++ y), .int .i64 b] (.tuple #[.agg #[.int .i64 q0, .int .i64 q1], .int .i64 m]))
    (hadd : ∀ W, (Op.stringOp .add x y).run Try.prog W = .ok (.string (x ++ y)) W) (hs : y.size ≤ 200)
    (cC : Ret 21 #[.agg #[.int .i64 p0, .int .i64 p1], .string y, .int .i64 b] (.tuple #[.agg #[.int .i64 q0, .int .i64 q1], .int .i64 m])) (hn : n = 0) (hm : m = 0) (w : World) :
    Calls Try.prog 6 #[.string s, .string t, .int .i64 b] w fun e w' => e = .returned (.bool true) ∧ Ext w w' := by
  subst hn hm
  go_enter Try.func6, Try.ntmps6
  try simp only [List.append]
  go_wp2_with fail
  refine (shown3_calls _).mono ?_
  rintro e y0 ⟨rfl, hX⟩
  go_wp2_with fail
  refine (cF.out _).mono ?_
  rintro e y1 ⟨rfl, rfl⟩
  go_wp2_with fail
  refine (cG.out _).mono ?_
  rintro e y1 ⟨rfl, rfl⟩
  go_wp2_with fail
  refine (cA _).mono ?_
  rintro e y1 ⟨rfl, hx⟩
  replace hX := (hX.trans hx).cells #[.int .i64 p0, .int .i64 p1] 24
  clear hx
  have o1 := Own.last (X := y1) (x := Value.int .i64 p0) (y := Value.int .i64 p1) (t := 24)
  go_wp2_with fail
  refine (cB _).mono ?_
  rintro e y2 ⟨rfl, hx⟩
  replace o1 := (o1.ext hx).alloc #[.int .i64 q0, .int .i64 q1] 24
  replace hX := (hX.trans hx).cells #[.int .i64 q0, .int .i64 q1] 24
  clear hx
  have o2 := Own.last (X := y2) (x := Value.int .i64 q0) (y := Value.int .i64 q1) (t := 24)
  have o1c0 := o1.c0
  have o1c1 := o1.c1
  have o2c0 := o2.c0
  have o2c1 := o2.c1
  have o1l := o1.lt
  go_wp2_with fail
  refine (cC _).mono ?_
  rintro e y3 ⟨rfl, hx⟩
  replace o1 := (o1.ext hx).alloc #[.int .i64 q0, .int .i64 q1] 24
  replace o2 := (o2.ext hx).alloc #[.int .i64 q0, .int .i64 q1] 24
  replace hX := (hX.trans hx).cells #[.int .i64 q0, .int .i64 q1] 24
  clear hx o1c0 o1c1 o2c0 o2c1 o1l
  have o3 := Own.last (X := y3) (x := Value.int .i64 q0) (y := Value.int .i64 q1) (t := 24)
  have o2c0 := o2.c0
  have o2c1 := o2.c1
  have o3c0 := o3.c0
  have o3c1 := o3.c1
  go_wp2_with fail
  go_ret
  exact ⟨rfl, hX⟩
set_option maxRecDepth 100000 in
set_option maxHeartbeats 2000000 in
theorem way_low (s t x y : ByteArray) (b p0 p1 q0 q1 n m : Int)
    (cF : RowKit.Hid (∀ w, Calls Try.prog 22 #[.string s] w fun e w' => e = .returned (.string x) ∧ w = w')) (cG : RowKit.Hid (∀ w, Calls Try.prog 22 #[.string t] w fun e w' => e = .returned (.string y) ∧ w = w'))
    (cA : Ret 21 #[.agg #[.int .i64 0, .int .i64 0], .string x, .int .i64 b] (.tuple #[.agg #[.int .i64 p0, .int .i64 p1], .int .i64 n]))
    (cB : Ret 21 #[.agg #[.int .i64 0, .int .i64 0], .string (x ++ y), .int .i64 b] (.tuple #[.agg #[.int .i64 q0, .int .i64 q1], .int .i64 m]))
    (hadd : ∀ W, (Op.stringOp .add x y).run Try.prog W = .ok (.string (x ++ y)) W) (hs : y.size ≤ 200)
    (cC : Ret 21 #[.agg #[.int .i64 p0, .int .i64 p1], .string y, .int .i64 b] (.tuple #[.agg #[.int .i64 q0, .int .i64 q1], .int .i64 m])) (hn : n = 0) (hm : (m == 0) = false) (hb : b < 2) (w : World) :
    Calls Try.prog 6 #[.string s, .string t, .int .i64 b] w fun e w' => e = .returned (.bool true) ∧ Ext w w' := by
  subst hn
  go_enter Try.func6, Try.ntmps6
  try simp only [List.append]
  go_wp2_with fail
  refine (shown3_calls _).mono ?_
  rintro e y0 ⟨rfl, hX⟩
  go_wp2_with fail
  refine (cF.out _).mono ?_
  rintro e y1 ⟨rfl, rfl⟩
  go_wp2_with fail
  refine (cG.out _).mono ?_
  rintro e y1 ⟨rfl, rfl⟩
  go_wp2_with fail
  refine (cA _).mono ?_
  rintro e y1 ⟨rfl, hx⟩
  replace hX := (hX.trans hx).cells #[.int .i64 p0, .int .i64 p1] 24
  clear hx
  have o1 := Own.last (X := y1) (x := Value.int .i64 p0) (y := Value.int .i64 p1) (t := 24)
  go_wp2_with fail
  refine (cB _).mono ?_
  rintro e y2 ⟨rfl, hx⟩
  replace o1 := (o1.ext hx).alloc #[.int .i64 q0, .int .i64 q1] 24
  replace hX := (hX.trans hx).cells #[.int .i64 q0, .int .i64 q1] 24
  clear hx
  have o2 := Own.last (X := y2) (x := Value.int .i64 q0) (y := Value.int .i64 q1) (t := 24)
  have o1c0 := o1.c0
  have o1c1 := o1.c1
  have o2c0 := o2.c0
  have o2c1 := o2.c1
  have o1l := o1.lt
  go_wp2_with fail
  refine (cC _).mono ?_
  rintro e y3 ⟨rfl, hx⟩
  replace o1 := (o1.ext hx).alloc #[.int .i64 q0, .int .i64 q1] 24
  replace o2 := (o2.ext hx).alloc #[.int .i64 q0, .int .i64 q1] 24
  replace hX := (hX.trans hx).cells #[.int .i64 q0, .int .i64 q1] 24
  clear hx o1c0 o1c1 o2c0 o2c1 o1l
  have o3 := Own.last (X := y3) (x := Value.int .i64 q0) (y := Value.int .i64 q1) (t := 24)
  have o2c0 := o2.c0
  have o2c1 := o2.c1
  have o3c0 := o3.c0
  have o3c1 := o3.c1
  go_wp2_with fail
  go_ret
  exact ⟨rfl, hX⟩
set_option maxRecDepth 100000 in
set_option maxHeartbeats 2000000 in
theorem way_high (s t x y : ByteArray) (b p0 p1 q0 q1 n m : Int)
    (cF : RowKit.Hid (∀ w, Calls Try.prog 22 #[.string s] w fun e w' => e = .returned (.string x) ∧ w = w')) (cG : RowKit.Hid (∀ w, Calls Try.prog 22 #[.string t] w fun e w' => e = .returned (.string y) ∧ w = w'))
    (cA : Ret 21 #[.agg #[.int .i64 0, .int .i64 0], .string x, .int .i64 b] (.tuple #[.agg #[.int .i64 p0, .int .i64 p1], .int .i64 n]))
    (cB : Ret 21 #[.agg #[.int .i64 0, .int .i64 0], .string (x ++ y), .int .i64 b] (.tuple #[.agg #[.int .i64 q0, .int .i64 q1], .int .i64 m]))
    (hadd : ∀ W, (Op.stringOp .add x y).run Try.prog W = .ok (.string (x ++ y)) W) (hs : y.size ≤ 200)
    (cC : Ret 21 #[.agg #[.int .i64 p0, .int .i64 p1], .string y, .int .i64 b] (.tuple #[.agg #[.int .i64 q0, .int .i64 q1], .int .i64 m])) (hn : n = 0) (hm : (m == 0) = false) (hb : 36 < b) (w : World) :
    Calls Try.prog 6 #[.string s, .string t, .int .i64 b] w fun e w' => e = .returned (.bool true) ∧ Ext w w' := by
  subst hn
  have hb2 : ¬ b < 2 := by omega
  go_enter Try.func6, Try.ntmps6
  try simp only [List.append]
  go_wp2_with fail
  refine (shown3_calls _).mono ?_
  rintro e y0 ⟨rfl, hX⟩
  go_wp2_with fail
  refine (cF.out _).mono ?_
  rintro e y1 ⟨rfl, rfl⟩
  go_wp2_with fail
  refine (cG.out _).mono ?_
  rintro e y1 ⟨rfl, rfl⟩
  go_wp2_with fail
  refine (cA _).mono ?_
  rintro e y1 ⟨rfl, hx⟩
  replace hX := (hX.trans hx).cells #[.int .i64 p0, .int .i64 p1] 24
  clear hx
  have o1 := Own.last (X := y1) (x := Value.int .i64 p0) (y := Value.int .i64 p1) (t := 24)
  go_wp2_with fail
  refine (cB _).mono ?_
  rintro e y2 ⟨rfl, hx⟩
  replace o1 := (o1.ext hx).alloc #[.int .i64 q0, .int .i64 q1] 24
  replace hX := (hX.trans hx).cells #[.int .i64 q0, .int .i64 q1] 24
  clear hx
  have o2 := Own.last (X := y2) (x := Value.int .i64 q0) (y := Value.int .i64 q1) (t := 24)
  have o1c0 := o1.c0
  have o1c1 := o1.c1
  have o2c0 := o2.c0
  have o2c1 := o2.c1
  have o1l := o1.lt
  go_wp2_with fail
  refine (cC _).mono ?_
  rintro e y3 ⟨rfl, hx⟩
  replace o1 := (o1.ext hx).alloc #[.int .i64 q0, .int .i64 q1] 24
  replace o2 := (o2.ext hx).alloc #[.int .i64 q0, .int .i64 q1] 24
  replace hX := (hX.trans hx).cells #[.int .i64 q0, .int .i64 q1] 24
  clear hx o1c0 o1c1 o2c0 o2c1 o1l
  have o3 := Own.last (X := y3) (x := Value.int .i64 q0) (y := Value.int .i64 q1) (t := 24)
  have o2c0 := o2.c0
  have o2c1 := o2.c1
  have o3c0 := o3.c0
  have o3c1 := o3.c1
  go_wp2_with fail
  go_ret
  exact ⟨rfl, hX⟩
set_option maxRecDepth 100000 in
set_option maxHeartbeats 2000000 in
theorem way_stop (s t x y : ByteArray) (b p0 p1 q0 q1 n m : Int)
    (cF : RowKit.Hid (∀ w, Calls Try.prog 22 #[.string s] w fun e w' => e = .returned (.string x) ∧ w = w')) (cG : RowKit.Hid (∀ w, Calls Try.prog 22 #[.string t] w fun e w' => e = .returned (.string y) ∧ w = w'))
    (cA : Ret 21 #[.agg #[.int .i64 0, .int .i64 0], .string x, .int .i64 b] (.tuple #[.agg #[.int .i64 p0, .int .i64 p1], .int .i64 n]))
    (cB : Ret 21 #[.agg #[.int .i64 0, .int .i64 0], .string (x ++ y), .int .i64 b] (.tuple #[.agg #[.int .i64 q0, .int .i64 q1], .int .i64 m]))
    (hadd : ∀ W, (Op.stringOp .add x y).run Try.prog W = .ok (.string (x ++ y)) W) (hs : y.size ≤ 200)
    (cC : Ret 21 #[.agg #[.int .i64 p0, .int .i64 p1], .string y, .int .i64 b] (.tuple #[.agg #[.int .i64 q0, .int .i64 q1], .int .i64 m])) (hn : n = 0) (hm : (m == 0) = false) (hb : 2 ≤ b) (hb2 : b ≤ 36) (j : Nat) (hj : (y.size : Int) - m = (j : Int)) (hlt : j < y.size) (hv : vB y[j] b.toNat = false) (w : World) :
    Calls Try.prog 6 #[.string s, .string t, .int .i64 b] w fun e w' => e = .returned (.bool true) ∧ Ext w w' := by
  subst hn
  have cI := is_calls y[j] b
  rw [hv] at cI
  have CI := Lib.hid cI
  have hlt2 : (j : Int) < (y.size : Int) := by omega
  clear cI hv
  go_enter Try.func6, Try.ntmps6
  try simp only [List.append]
  go_wp2_with fail
  refine (shown3_calls _).mono ?_
  rintro e y0 ⟨rfl, hX⟩
  go_wp2_with fail
  refine (cF.out _).mono ?_
  rintro e y1 ⟨rfl, rfl⟩
  go_wp2_with fail
  refine (cG.out _).mono ?_
  rintro e y1 ⟨rfl, rfl⟩
  go_wp2_with fail
  refine (cA _).mono ?_
  rintro e y1 ⟨rfl, hx⟩
  replace hX := (hX.trans hx).cells #[.int .i64 p0, .int .i64 p1] 24
  clear hx
  have o1 := Own.last (X := y1) (x := Value.int .i64 p0) (y := Value.int .i64 p1) (t := 24)
  go_wp2_with fail
  refine (cB _).mono ?_
  rintro e y2 ⟨rfl, hx⟩
  replace o1 := (o1.ext hx).alloc #[.int .i64 q0, .int .i64 q1] 24
  replace hX := (hX.trans hx).cells #[.int .i64 q0, .int .i64 q1] 24
  clear hx
  have o2 := Own.last (X := y2) (x := Value.int .i64 q0) (y := Value.int .i64 q1) (t := 24)
  have o1c0 := o1.c0
  have o1c1 := o1.c1
  have o2c0 := o2.c0
  have o2c1 := o2.c1
  have o1l := o1.lt
  go_wp2_with fail
  refine (cC _).mono ?_
  rintro e y3 ⟨rfl, hx⟩
  replace o1 := (o1.ext hx).alloc #[.int .i64 q0, .int .i64 q1] 24
  replace o2 := (o2.ext hx).alloc #[.int .i64 q0, .int .i64 q1] 24
  replace hX := (hX.trans hx).cells #[.int .i64 q0, .int .i64 q1] 24
  clear hx o1c0 o1c1 o2c0 o2c1 o1l
  have o3 := Own.last (X := y3) (x := Value.int .i64 q0) (y := Value.int .i64 q1) (t := 24)
  have o2c0 := o2.c0
  have o2c1 := o2.c1
  have o3c0 := o3.c0
  have o3c1 := o3.c1
  go_wp2_with fail
  refine (CI.out _).mono ?_
  rintro e y4 ⟨rfl, rfl⟩
  go_wp2_with fail
  go_ret
  exact ⟨rfl, hX⟩
theorem data_app (a b : ByteArray) : (a ++ b).data.toList = a.data.toList ++ b.data.toList := by
  cases a with | mk a => cases b with | mk b => simp
theorem add_str (x y : ByteArray) (h : x.size + y.size ≤ 1000000000) (W : World) : (Op.stringOp .add x y).run Try.prog W = .ok (.string (x ++ y)) W := by
  rw [run_string_add_sum W _ _ (by omega)]
set_option maxHeartbeats 8000000 in
set_option maxRecDepth 100000 in
theorem walk (s0 : ByteArray) (w0 : s0.size ≤ maxLen) (s1 : ByteArray) (w1 : s1.size ≤ maxLen) (a2 : Int) (w2 : (Lit.int .i64 a2).wf = true) (w : World) :
    Calls Try.prog 6 #[.string s0, .string s1, .int .i64 a2] w fun e w' => e = .returned (.bool true) ∧ Grown w w' := by
  suffices hsuf : Calls Try.prog 6 #[.string s0, .string s1, .int .i64 a2] w fun e w' => e = .returned (.bool true) ∧ Ext w w' from hsuf.mono fun e w' ⟨he, hx⟩ => ⟨he, hx.grown⟩
  have hx := few_size s0
  have hy := few_size s1
  have cF := Lib.hid (few_calls s0 w0)
  have cG := Lib.hid (few_calls s1 w1)
  obtain ⟨x, hxe⟩ : ∃ f, f = fewOf s0 := ⟨_, rfl⟩
  obtain ⟨y, hye⟩ : ∃ f, f = fewOf s1 := ⟨_, rfl⟩
  rw [← hxe] at hx cF
  rw [← hye] at hy cG
  clear hxe hye
  have z0 : I64 0 := by unfold I64; omega
  have hadd := add_str x y (by omega)
  have hxy : (x ++ y).size ≤ 1000000000 := by rw [ByteArray.size_append]; omega
  have hlist : (x ++ y).data.toList = x.data.toList ++ y.data.toList := data_app x y
  have lx : x.data.toList.length = x.size := rfl
  have ly : y.data.toList.length = y.size := rfl
  by_cases hb : 2 ≤ a2 ∧ a2 ≤ 36
  · obtain ⟨B, rfl, h2, h36⟩ := base_nat hb
    have cA := fun W => accept_calls 0 0 (B : Int) z0 z0 x (by omega) 0 B (by decide +kernel) rfl h2 h36 W
    have cB := fun W => accept_calls 0 0 (B : Int) z0 z0 (x ++ y) hxy 0 B (by decide +kernel) rfl h2 h36 W
    rw [hlist, acc_append] at cB
    have hl := acc_left B x.data.toList 0
    obtain ⟨p, hp⟩ : ∃ p, p = (acc B 0 x.data.toList).1 := ⟨_, rfl⟩
    obtain ⟨n, hn⟩ : ∃ p, p = (acc B 0 x.data.toList).2 := ⟨_, rfl⟩
    have hp2 : p < two128 := by rw [hp]; exact acc_lt B _ 0 (by unfold two128; omega)
    rw [← hp, ← hn] at cA cB
    rw [← hn, lx] at hl
    by_cases h0 : n = 0
    · rw [if_pos h0] at cB
      have hly := acc_left B y.data.toList p
      have hst := acc_stop B y.data.toList p
      have cC := fun W => accept_calls (lo (p : Int)) (hi (p : Int)) (B : Int) (lo_i64 _) (hi_i64 _) y (by omega) p B (W_of p hp2) rfl h2 h36 W
      obtain ⟨q, hq⟩ : ∃ q, q = (acc B p y.data.toList).1 := ⟨_, rfl⟩
      obtain ⟨m, hm⟩ : ∃ q, q = (acc B p y.data.toList).2 := ⟨_, rfl⟩
      rw [← hq, ← hm] at cB cC
      rw [← hm] at hst
      rw [← hm, ly] at hly
      by_cases hm0 : m = 0
      · exact way_none s0 s1 x y _ _ _ _ _ _ _ cF cG cA cB hadd hy cC (by omega) (by omega) w
      · obtain ⟨c, hc1, hc2⟩ := hst hm0
        rw [ly] at hc1
        refine way_stop s0 s1 x y _ _ _ _ _ _ _ cF cG cA cB hadd hy cC (by omega) (by rw [beq_eq_false_iff_ne]; omega) (by omega) (by omega) (y.size - m) (by omega) (by omega) ?_ w
        have hk := at_list y (y.size - m) (by omega)
        rw [hk] at hc1
        have hce := Option.some.inj hc1
        rw [hce, Int.toNat_natCast]
        unfold vB
        rw [hc2]
        rfl
    · rw [if_neg h0] at cB
      exact way_left s0 s1 x y _ _ _ _ _ _ _ cF cG cA cB hadd hy rfl rfl (by omega) (by omega) (by simp only [ly]; omega) w
  · have cA := fun W => accept_wrong 0 0 a2 x (by omega) hb W
    have cB := fun W => accept_wrong 0 0 a2 (x ++ y) hxy hb W
    have cC := fun W => accept_wrong 0 0 a2 y (by omega) hb W
    have hsz : (x ++ y).size = x.size + y.size := ByteArray.size_append
    by_cases h0 : x.size = 0
    · rw [show (x ++ y).size = y.size by omega] at cB
      by_cases hm0 : y.size = 0
      · exact way_none s0 s1 x y _ _ _ _ _ _ _ cF cG cA cB hadd hy cC (by omega) (by omega) w
      · by_cases hl2 : a2 < 2
        · exact way_low s0 s1 x y _ _ _ _ _ _ _ cF cG cA cB hadd hy cC (by omega) (by rw [beq_eq_false_iff_ne]; omega) hl2 w
        · exact way_high s0 s1 x y _ _ _ _ _ _ _ cF cG cA cB hadd hy cC (by omega) (by rw [beq_eq_false_iff_ne]; omega) (by omega) w
    · exact way_left s0 s1 x y _ _ _ _ _ _ _ cF cG cA cB hadd hy rfl rfl (by omega) (by omega) (by omega) w

set_option maxRecDepth 100000 in
theorem lifted (os : Os) (started : os.Started) (H : Type) (enc : TypeId × Value → H) :
    ReturnsInHanded {} Try.checked os 6 .any (Rows.digitPartsSpec.pre6 enc Try.prog Try.f6 Rows.digitPartsRow.domain false) (Rows.digitPartsSpec.post enc Try.prog Try.f6 false true false false) := by
  refine returnsInHanded_of_change (C := Try.checked) own started (by kernel_rfl) Try.func6
    (ChangeSpec.witness6 (enc := enc) (C := Try.checked) false ⟨#[], #[.string ⟨#[]⟩, .string ⟨#[]⟩, .int .i64 0], []⟩ 8 (by kernel_rfl) (by kernel_rfl) (by kernel_rfl) (by kernel_rfl)) ?_
  intro W base args ds gs before hval0 hW hcnd _
  have hval : ∀ (j : Nat) t v, Try.f6.params[j]? = some t → args[j]? = some v → Value.okWide Try.prog W .any base t v := hval0
  have hW' := hW
  obtain ⟨p, q, hA0, hV, rfl, hfz, hnd⟩ := hW
  have hA : DataW.TrodAll enc Try.prog W 0 (fun _ => true) true Try.f6.params.toList args.toList ds p := hA0
  rw [Try.params6] at hA hval
  obtain ⟨v0, vs0, d0, ds0, p0, q0, hargs, rfl, rfl, h0, r0⟩ := trodAll_cons hA
  obtain ⟨v1, vs1, d1, ds1, p1, q1, rfl, rfl, rfl, h1, r1⟩ := trodAll_cons r0
  obtain ⟨v2, vs2, d2, ds2, p2, q2, rfl, rfl, rfl, h2, r2⟩ := trodAll_cons r1
  obtain ⟨rfl, rfl, rfl⟩ := trodAll_nil r2
  obtain rfl : args = #[v0, v1, v2] := by cases args; simp_all
  obtain ⟨rfl, rfl⟩ := trodVars_none hV
  obtain ⟨s0, rfl, rfl, rfl, w0⟩ := open_string Try.underlying9 (hval 0 9 v0 rfl rfl) h0
  obtain ⟨s1, rfl, rfl, rfl, w1⟩ := open_string Try.underlying9 (hval 1 9 v1 rfl rfl) h1
  obtain ⟨a2, rfl, rfl, rfl, w2⟩ := open_int Try.underlying3 (hval 2 3 v2 rfl rfl) h2
  clear hA0 hval0
  simp only [List.append_nil] at hW'
  refine (walk s0 w0 s1 w1 a2 w2 W).mono fun e W' ⟨he, hg⟩ => ?_
  subst he
  exact ⟨_, rfl, post_of_same (pa := []) (pv := []) hW' (fun _ _ _ => (trodAll_cons_mk (shut_bool Try.underlying4 _) trodAll_mk0)) (fun sp _ => (trodAll_cons_mk (shut_string Try.underlying9 w0) (trodAll_cons_mk (shut_string Try.underlying9 w1) (trodAll_cons_mk (shut_int Try.underlying3 w2) trodAll_mk0)))) (fun _ _ => rfl) rfl
    (hg.frame _) hg.2.1 (ok_one (by kernel_rfl) rfl (okWide_bool_mk Try.underlying4 _))⟩

theorem over : Rows.digitPartsRow.holds Try.pinned (OpenSpec.ofChange Rows.digitPartsSpec) :=
  OpenClaim.holds_of_wide 6 Try.f6 rfl rfl rfl rfl rfl rfl rfl ⟨rfl, rfl, rfl, rfl, rfl⟩ rfl rfl rfl rfl rfl (by kernel_rfl) Try.func6 (by kernel_rfl)
    (of_decide_eq_true (by kernel_rfl)) (by unfold Func.isWrapper; first | (rw [if_pos (by decide +kernel)]; kernel_rfl) | (rw [if_neg (by decide +kernel)]; exact ⟨rfl, rfl⟩))
    (fun os started H enc _ => lifted os started H enc)

/-- THE STATEMENT -/
theorem proved : Rows.DigitPartsSaid :=
  over
#print axioms proved
end Go.Proofs.Ytoaijcahjmkkpaa.digitParts
