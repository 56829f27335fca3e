/- DigitLess: for all arguments given, the call returns true and the arguments read as before. No condition. -/
import Derived.Test.YtoaijcahjmkkpaaRows
import Derived.Test.YtoaijcahjmkkpaaC3Num
import Derived.Test.YtoaijcahjmkkpaaLawKit
import Derived.Deep.RegionHeld3
import Derived.Sort.Walk0
import Derived.WalkKit
import Derived.ProofKit
import Derived.OpenShut
import Derived.ChangeMaps5
namespace Go.Proofs.Ytoaijcahjmkkpaa.digitLess
open Go.ChangeShapes Go.WideShapes Go.ChangeAt Go.RowKit Go.ChangeMaps
set_option linter.unusedVariables false

theorem own : ownKnob Try.prog.godebug = none := by kernel_rfl

set_option maxRecDepth 100000 in
set_option maxHeartbeats 4000000 in
theorem way_less (a0 b0 a1 b1 : Int) (c : UInt8) (B : Nat) (S T : ByteArray) (hB : (c.toNat : Int) % 35 + 2 = (B : Int)) (u k : Bool)
    (cS : Ret 15 #[.agg #[.int .i64 a0, .int .i64 b0], .int .i64 (B : Int)] (.string S)) (cT : Ret 15 #[.agg #[.int .i64 a1, .int .i64 b1], .int .i64 (B : Int)] (.string T))
    (cU : Ret 27 #[.agg #[.int .i64 a0, .int .i64 b0], .agg #[.int .i64 a1, .int .i64 b1]] (.bool u)) (hq : (a0 == a1 && b0 == b1) = k) (hs1 : S.size ≤ 128) (hs2 : T.size ≤ 128)
    (hl : (S.size : Int) < (T.size : Int)) (hu : u = true) (hk : k = false) (he : (S.toList == T.toList) = false) (w : World) :
    Calls Try.prog 7 #[.agg #[.int .i64 a0, .int .i64 b0], .agg #[.int .i64 a1, .int .i64 b1], .int .u8 (c.toNat : Int)] w fun e w' => e = .returned (.bool true) ∧ Ext w w' := by
  have hc0 : (0 : Int) ≤ (c.toNat : Int) := by omega
  have hc1 : (c.toNat : Int) ≤ 255 := by have := c.toNat_lt; omega
  have hS : ∀ W W', Ext W W' → (W.cell? ⟨w.heap.size, 0, none⟩ = some (.int .i64 a0) ∧ W.cell? ⟨w.heap.size, 1, none⟩ = some (.int .i64 b0) ∧ W.cell? ⟨w.heap.size + 1, 0, none⟩ = some (.int .i64 a1) ∧ W.cell? ⟨w.heap.size + 1, 1, none⟩ = some (.int .i64 b1)) ∧ Ext w W → (W'.cell? ⟨w.heap.size, 0, none⟩ = some (.int .i64 a0) ∧ W'.cell? ⟨w.heap.size, 1, none⟩ = some (.int .i64 b0) ∧ W'.cell? ⟨w.heap.size + 1, 0, none⟩ = some (.int .i64 a1) ∧ W'.cell? ⟨w.heap.size + 1, 1, none⟩ = some (.int .i64 b1)) ∧ Ext w W' := fun W W' hx h => ⟨⟨ext_keeps hx h.1.1, ext_keeps hx h.1.2.1, ext_keeps hx h.1.2.2.1, ext_keeps hx h.1.2.2.2⟩, h.2.trans hx⟩
  have kS := Lib.hid (show ∀ W, (W.cell? ⟨w.heap.size, 0, none⟩ = some (.int .i64 a0) ∧ W.cell? ⟨w.heap.size, 1, none⟩ = some (.int .i64 b0) ∧ W.cell? ⟨w.heap.size + 1, 0, none⟩ = some (.int .i64 a1) ∧ W.cell? ⟨w.heap.size + 1, 1, none⟩ = some (.int .i64 b1)) ∧ Ext w W → Calls Try.prog 15 #[.agg #[.int .i64 a0, .int .i64 b0], .int .i64 (B : Int)] W (fun e w' => e = .returned (.string S) ∧ ((w'.cell? ⟨w.heap.size, 0, none⟩ = some (.int .i64 a0) ∧ w'.cell? ⟨w.heap.size, 1, none⟩ = some (.int .i64 b0) ∧ w'.cell? ⟨w.heap.size + 1, 0, none⟩ = some (.int .i64 a1) ∧ w'.cell? ⟨w.heap.size + 1, 1, none⟩ = some (.int .i64 b1)) ∧ Ext w w')) from fun W h => Ret.held cS _ hS W h)
  have kT := Lib.hid (show ∀ W, (W.cell? ⟨w.heap.size, 0, none⟩ = some (.int .i64 a0) ∧ W.cell? ⟨w.heap.size, 1, none⟩ = some (.int .i64 b0) ∧ W.cell? ⟨w.heap.size + 1, 0, none⟩ = some (.int .i64 a1) ∧ W.cell? ⟨w.heap.size + 1, 1, none⟩ = some (.int .i64 b1)) ∧ Ext w W → Calls Try.prog 15 #[.agg #[.int .i64 a1, .int .i64 b1], .int .i64 (B : Int)] W (fun e w' => e = .returned (.string T) ∧ ((w'.cell? ⟨w.heap.size, 0, none⟩ = some (.int .i64 a0) ∧ w'.cell? ⟨w.heap.size, 1, none⟩ = some (.int .i64 b0) ∧ w'.cell? ⟨w.heap.size + 1, 0, none⟩ = some (.int .i64 a1) ∧ w'.cell? ⟨w.heap.size + 1, 1, none⟩ = some (.int .i64 b1)) ∧ Ext w w')) from fun W h => Ret.held cT _ hS W h)
  clear hS cS cT
  go_enter Try.func7, Try.ntmps7
  try simp only [List.append]
  go_wp2_with fail
  obtain ⟨o0, o1⟩ := own2 w (.int .i64 a0) (.int .i64 b0) (.int .i64 a1) (.int .i64 b1)
  have hX := ((Ext.refl w).cells #[.int .i64 a0, .int .i64 b0] 24).cells #[.int .i64 a1, .int .i64 b1] 24
  refine (shown3_calls _).mono ?_
  rintro e y0 ⟨rfl, hx⟩
  replace o0 := o0.ext hx
  replace o1 := o1.ext hx
  replace hX := hX.trans hx
  clear hx
  go_wp2_with fail
  go_region_held3 (fun W => (W.cell? ⟨w.heap.size, 0, none⟩ = some (.int .i64 a0) ∧ W.cell? ⟨w.heap.size, 1, none⟩ = some (.int .i64 b0) ∧ W.cell? ⟨w.heap.size + 1, 0, none⟩ = some (.int .i64 a1) ∧ W.cell? ⟨w.heap.size + 1, 1, none⟩ = some (.int .i64 b1)) ∧ Ext w W) (first | exact ⟨⟨o0.c0, o0.c1, o1.c0, o1.c1⟩, hX⟩ | exact ⟨⟨o0.c0, o0.c1, o1.c0, o1.c1⟩, hX.drew⟩ | exact hx | assumption)
    (first | (go_at_call 15; (with_reducible refine (kS.out _ ?_).mono ?_); assumption; rintro e w' ⟨rfl, hx⟩) | (go_at_call 15; (with_reducible refine (kT.out _ ?_).mono ?_); assumption; rintro e w' ⟨rfl, hx⟩))
  clear o0 o1 hX kS kT
  have hX := hx.2
  obtain ⟨p0, p1, p2, p3⟩ := hx.1
  clear hx
  subst hu hk
  go_wp2_with fail
  refine (cU _).mono ?_
  rintro e y2 ⟨rfl, hx⟩
  replace p0 := ext_keeps hx p0
  replace p1 := ext_keeps hx p1
  replace p2 := ext_keeps hx p2
  replace p3 := ext_keeps hx p3
  replace hX := hX.trans hx
  clear hx
  go_wp2_with fail
  go_ret
  exact ⟨rfl, hX⟩
set_option maxRecDepth 100000 in
set_option maxHeartbeats 4000000 in
theorem way_same (a0 b0 a1 b1 : Int) (c : UInt8) (B : Nat) (S T : ByteArray) (hB : (c.toNat : Int) % 35 + 2 = (B : Int)) (u k : Bool)
    (cS : Ret 15 #[.agg #[.int .i64 a0, .int .i64 b0], .int .i64 (B : Int)] (.string S)) (cT : Ret 15 #[.agg #[.int .i64 a1, .int .i64 b1], .int .i64 (B : Int)] (.string T))
    (cU : Ret 27 #[.agg #[.int .i64 a0, .int .i64 b0], .agg #[.int .i64 a1, .int .i64 b1]] (.bool u)) (hq : (a0 == a1 && b0 == b1) = k) (hs1 : S.size ≤ 128) (hs2 : T.size ≤ 128)
    (hl : ¬ (S.size : Int) < (T.size : Int)) (hl2 : ((S.size : Int) == (T.size : Int)) = true) (hu : Op.bytesLess S.toList T.toList = u) (he : (S.toList == T.toList) = k) (w : World) :
    Calls Try.prog 7 #[.agg #[.int .i64 a0, .int .i64 b0], .agg #[.int .i64 a1, .int .i64 b1], .int .u8 (c.toNat : Int)] w fun e w' => e = .returned (.bool true) ∧ Ext w w' := by
  have hc0 : (0 : Int) ≤ (c.toNat : Int) := by omega
  have hc1 : (c.toNat : Int) ≤ 255 := by have := c.toNat_lt; omega
  have hS : ∀ W W', Ext W W' → (W.cell? ⟨w.heap.size, 0, none⟩ = some (.int .i64 a0) ∧ W.cell? ⟨w.heap.size, 1, none⟩ = some (.int .i64 b0) ∧ W.cell? ⟨w.heap.size + 1, 0, none⟩ = some (.int .i64 a1) ∧ W.cell? ⟨w.heap.size + 1, 1, none⟩ = some (.int .i64 b1)) ∧ Ext w W → (W'.cell? ⟨w.heap.size, 0, none⟩ = some (.int .i64 a0) ∧ W'.cell? ⟨w.heap.size, 1, none⟩ = some (.int .i64 b0) ∧ W'.cell? ⟨w.heap.size + 1, 0, none⟩ = some (.int .i64 a1) ∧ W'.cell? ⟨w.heap.size + 1, 1, none⟩ = some (.int .i64 b1)) ∧ Ext w W' := fun W W' hx h => ⟨⟨ext_keeps hx h.1.1, ext_keeps hx h.1.2.1, ext_keeps hx h.1.2.2.1, ext_keeps hx h.1.2.2.2⟩, h.2.trans hx⟩
  have kS := Lib.hid (show ∀ W, (W.cell? ⟨w.heap.size, 0, none⟩ = some (.int .i64 a0) ∧ W.cell? ⟨w.heap.size, 1, none⟩ = some (.int .i64 b0) ∧ W.cell? ⟨w.heap.size + 1, 0, none⟩ = some (.int .i64 a1) ∧ W.cell? ⟨w.heap.size + 1, 1, none⟩ = some (.int .i64 b1)) ∧ Ext w W → Calls Try.prog 15 #[.agg #[.int .i64 a0, .int .i64 b0], .int .i64 (B : Int)] W (fun e w' => e = .returned (.string S) ∧ ((w'.cell? ⟨w.heap.size, 0, none⟩ = some (.int .i64 a0) ∧ w'.cell? ⟨w.heap.size, 1, none⟩ = some (.int .i64 b0) ∧ w'.cell? ⟨w.heap.size + 1, 0, none⟩ = some (.int .i64 a1) ∧ w'.cell? ⟨w.heap.size + 1, 1, none⟩ = some (.int .i64 b1)) ∧ Ext w w')) from fun W h => Ret.held cS _ hS W h)
  have kT := Lib.hid (show ∀ W, (W.cell? ⟨w.heap.size, 0, none⟩ = some (.int .i64 a0) ∧ W.cell? ⟨w.heap.size, 1, none⟩ = some (.int .i64 b0) ∧ W.cell? ⟨w.heap.size + 1, 0, none⟩ = some (.int .i64 a1) ∧ W.cell? ⟨w.heap.size + 1, 1, none⟩ = some (.int .i64 b1)) ∧ Ext w W → Calls Try.prog 15 #[.agg #[.int .i64 a1, .int .i64 b1], .int .i64 (B : Int)] W (fun e w' => e = .returned (.string T) ∧ ((w'.cell? ⟨w.heap.size, 0, none⟩ = some (.int .i64 a0) ∧ w'.cell? ⟨w.heap.size, 1, none⟩ = some (.int .i64 b0) ∧ w'.cell? ⟨w.heap.size + 1, 0, none⟩ = some (.int .i64 a1) ∧ w'.cell? ⟨w.heap.size + 1, 1, none⟩ = some (.int .i64 b1)) ∧ Ext w w')) from fun W h => Ret.held cT _ hS W h)
  clear hS cS cT
  go_enter Try.func7, Try.ntmps7
  try simp only [List.append]
  go_wp2_with fail
  obtain ⟨o0, o1⟩ := own2 w (.int .i64 a0) (.int .i64 b0) (.int .i64 a1) (.int .i64 b1)
  have hX := ((Ext.refl w).cells #[.int .i64 a0, .int .i64 b0] 24).cells #[.int .i64 a1, .int .i64 b1] 24
  refine (shown3_calls _).mono ?_
  rintro e y0 ⟨rfl, hx⟩
  replace o0 := o0.ext hx
  replace o1 := o1.ext hx
  replace hX := hX.trans hx
  clear hx
  go_wp2_with fail
  go_region_held3 (fun W => (W.cell? ⟨w.heap.size, 0, none⟩ = some (.int .i64 a0) ∧ W.cell? ⟨w.heap.size, 1, none⟩ = some (.int .i64 b0) ∧ W.cell? ⟨w.heap.size + 1, 0, none⟩ = some (.int .i64 a1) ∧ W.cell? ⟨w.heap.size + 1, 1, none⟩ = some (.int .i64 b1)) ∧ Ext w W) (first | exact ⟨⟨o0.c0, o0.c1, o1.c0, o1.c1⟩, hX⟩ | exact ⟨⟨o0.c0, o0.c1, o1.c0, o1.c1⟩, hX.drew⟩ | exact hx | assumption)
    (first | (go_at_call 15; (with_reducible refine (kS.out _ ?_).mono ?_); assumption; rintro e w' ⟨rfl, hx⟩) | (go_at_call 15; (with_reducible refine (kT.out _ ?_).mono ?_); assumption; rintro e w' ⟨rfl, hx⟩))
  clear o0 o1 hX kS kT
  have hX := hx.2
  obtain ⟨p0, p1, p2, p3⟩ := hx.1
  clear hx
  have hl3 : decide (S.size < T.size) = false := decide_eq_false (by omega)
  cases u <;> cases k
  all_goals
    go_wp2_with fail
    refine (cU _).mono ?_
    rintro e y2 ⟨rfl, hx⟩
    replace p0 := ext_keeps hx p0
    replace p1 := ext_keeps hx p1
    replace p2 := ext_keeps hx p2
    replace p3 := ext_keeps hx p3
    replace hX := hX.trans hx
    clear hx
    go_wp2_with fail
    go_ret
    exact ⟨rfl, hX⟩
set_option maxRecDepth 100000 in
set_option maxHeartbeats 4000000 in
theorem way_more (a0 b0 a1 b1 : Int) (c : UInt8) (B : Nat) (S T : ByteArray) (hB : (c.toNat : Int) % 35 + 2 = (B : Int)) (u k : Bool)
    (cS : Ret 15 #[.agg #[.int .i64 a0, .int .i64 b0], .int .i64 (B : Int)] (.string S)) (cT : Ret 15 #[.agg #[.int .i64 a1, .int .i64 b1], .int .i64 (B : Int)] (.string T))
    (cU : Ret 27 #[.agg #[.int .i64 a0, .int .i64 b0], .agg #[.int .i64 a1, .int .i64 b1]] (.bool u)) (hq : (a0 == a1 && b0 == b1) = k) (hs1 : S.size ≤ 128) (hs2 : T.size ≤ 128)
    (hl : (T.size : Int) < (S.size : Int)) (hu : u = false) (hk : k = false) (he : (S.toList == T.toList) = false) (w : World) :
    Calls Try.prog 7 #[.agg #[.int .i64 a0, .int .i64 b0], .agg #[.int .i64 a1, .int .i64 b1], .int .u8 (c.toNat : Int)] w fun e w' => e = .returned (.bool true) ∧ Ext w w' := by
  have hc0 : (0 : Int) ≤ (c.toNat : Int) := by omega
  have hc1 : (c.toNat : Int) ≤ 255 := by have := c.toNat_lt; omega
  have hS : ∀ W W', Ext W W' → (W.cell? ⟨w.heap.size, 0, none⟩ = some (.int .i64 a0) ∧ W.cell? ⟨w.heap.size, 1, none⟩ = some (.int .i64 b0) ∧ W.cell? ⟨w.heap.size + 1, 0, none⟩ = some (.int .i64 a1) ∧ W.cell? ⟨w.heap.size + 1, 1, none⟩ = some (.int .i64 b1)) ∧ Ext w W → (W'.cell? ⟨w.heap.size, 0, none⟩ = some (.int .i64 a0) ∧ W'.cell? ⟨w.heap.size, 1, none⟩ = some (.int .i64 b0) ∧ W'.cell? ⟨w.heap.size + 1, 0, none⟩ = some (.int .i64 a1) ∧ W'.cell? ⟨w.heap.size + 1, 1, none⟩ = some (.int .i64 b1)) ∧ Ext w W' := fun W W' hx h => ⟨⟨ext_keeps hx h.1.1, ext_keeps hx h.1.2.1, ext_keeps hx h.1.2.2.1, ext_keeps hx h.1.2.2.2⟩, h.2.trans hx⟩
  have kS := Lib.hid (show ∀ W, (W.cell? ⟨w.heap.size, 0, none⟩ = some (.int .i64 a0) ∧ W.cell? ⟨w.heap.size, 1, none⟩ = some (.int .i64 b0) ∧ W.cell? ⟨w.heap.size + 1, 0, none⟩ = some (.int .i64 a1) ∧ W.cell? ⟨w.heap.size + 1, 1, none⟩ = some (.int .i64 b1)) ∧ Ext w W → Calls Try.prog 15 #[.agg #[.int .i64 a0, .int .i64 b0], .int .i64 (B : Int)] W (fun e w' => e = .returned (.string S) ∧ ((w'.cell? ⟨w.heap.size, 0, none⟩ = some (.int .i64 a0) ∧ w'.cell? ⟨w.heap.size, 1, none⟩ = some (.int .i64 b0) ∧ w'.cell? ⟨w.heap.size + 1, 0, none⟩ = some (.int .i64 a1) ∧ w'.cell? ⟨w.heap.size + 1, 1, none⟩ = some (.int .i64 b1)) ∧ Ext w w')) from fun W h => Ret.held cS _ hS W h)
  have kT := Lib.hid (show ∀ W, (W.cell? ⟨w.heap.size, 0, none⟩ = some (.int .i64 a0) ∧ W.cell? ⟨w.heap.size, 1, none⟩ = some (.int .i64 b0) ∧ W.cell? ⟨w.heap.size + 1, 0, none⟩ = some (.int .i64 a1) ∧ W.cell? ⟨w.heap.size + 1, 1, none⟩ = some (.int .i64 b1)) ∧ Ext w W → Calls Try.prog 15 #[.agg #[.int .i64 a1, .int .i64 b1], .int .i64 (B : Int)] W (fun e w' => e = .returned (.string T) ∧ ((w'.cell? ⟨w.heap.size, 0, none⟩ = some (.int .i64 a0) ∧ w'.cell? ⟨w.heap.size, 1, none⟩ = some (.int .i64 b0) ∧ w'.cell? ⟨w.heap.size + 1, 0, none⟩ = some (.int .i64 a1) ∧ w'.cell? ⟨w.heap.size + 1, 1, none⟩ = some (.int .i64 b1)) ∧ Ext w w')) from fun W h => Ret.held cT _ hS W h)
  clear hS cS cT
  go_enter Try.func7, Try.ntmps7
  try simp only [List.append]
  go_wp2_with fail
  obtain ⟨o0, o1⟩ := own2 w (.int .i64 a0) (.int .i64 b0) (.int .i64 a1) (.int .i64 b1)
  have hX := ((Ext.refl w).cells #[.int .i64 a0, .int .i64 b0] 24).cells #[.int .i64 a1, .int .i64 b1] 24
  refine (shown3_calls _).mono ?_
  rintro e y0 ⟨rfl, hx⟩
  replace o0 := o0.ext hx
  replace o1 := o1.ext hx
  replace hX := hX.trans hx
  clear hx
  go_wp2_with fail
  go_region_held3 (fun W => (W.cell? ⟨w.heap.size, 0, none⟩ = some (.int .i64 a0) ∧ W.cell? ⟨w.heap.size, 1, none⟩ = some (.int .i64 b0) ∧ W.cell? ⟨w.heap.size + 1, 0, none⟩ = some (.int .i64 a1) ∧ W.cell? ⟨w.heap.size + 1, 1, none⟩ = some (.int .i64 b1)) ∧ Ext w W) (first | exact ⟨⟨o0.c0, o0.c1, o1.c0, o1.c1⟩, hX⟩ | exact ⟨⟨o0.c0, o0.c1, o1.c0, o1.c1⟩, hX.drew⟩ | exact hx | assumption)
    (first | (go_at_call 15; (with_reducible refine (kS.out _ ?_).mono ?_); assumption; rintro e w' ⟨rfl, hx⟩) | (go_at_call 15; (with_reducible refine (kT.out _ ?_).mono ?_); assumption; rintro e w' ⟨rfl, hx⟩))
  clear o0 o1 hX kS kT
  have hX := hx.2
  obtain ⟨p0, p1, p2, p3⟩ := hx.1
  clear hx
  subst hu hk
  have hl1 : ¬ (S.size : Int) < (T.size : Int) := by omega
  have hl2 : ((S.size : Int) == (T.size : Int)) = false := by rw [beq_eq_false_iff_ne]; omega
  go_wp2_with fail
  refine (cU _).mono ?_
  rintro e y2 ⟨rfl, hx⟩
  replace p0 := ext_keeps hx p0
  replace p1 := ext_keeps hx p1
  replace p2 := ext_keeps hx p2
  replace p3 := ext_keeps hx p3
  replace hX := hX.trans hx
  clear hx
  go_wp2_with fail
  go_ret
  exact ⟨rfl, hX⟩
set_option maxHeartbeats 8000000 in
set_option maxRecDepth 100000 in
theorem walk (a0 b0 : Int) (w0 : (Lit.int .i64 a0).wf = true) (v0 : (Lit.int .i64 b0).wf = true) (a1 b1 : Int) (w1 : (Lit.int .i64 a1).wf = true) (v1 : (Lit.int .i64 b1).wf = true) (a2 : Int) (w2 : (Lit.int .u8 a2).wf = true) (w : World) :
    Calls Try.prog 7 #[.agg #[.int .i64 a0, .int .i64 b0], .agg #[.int .i64 a1, .int .i64 b1], .int .u8 a2] w fun e w' => e = .returned (.bool true) ∧ Grown w w' := by
  suffices hsuf : Calls Try.prog 7 #[.agg #[.int .i64 a0, .int .i64 b0], .agg #[.int .i64 a1, .int .i64 b1], .int .u8 a2] w fun e w' => e = .returned (.bool true) ∧ Ext w w' from hsuf.mono fun e w' ⟨he, hx⟩ => ⟨he, hx.grown⟩
  obtain ⟨c, rfl⟩ := u8_of_wf w2
  obtain ⟨B, hB, h2, h36⟩ := byte_base c
  have ha := i64_of_wf w0
  have hb := i64_of_wf v0
  have hc := i64_of_wf w1
  have hd := i64_of_wf v1
  obtain ⟨P, hP⟩ := W_nat' a0 b0
  obtain ⟨Q, hQ⟩ := W_nat' a1 b1
  obtain ⟨e1, e2, hl⟩ := W_at a0 b0 ha hb P hP
  obtain ⟨f1, f2, hm⟩ := W_at a1 b1 hc hd Q hQ
  have cS := fun W => text_calls a0 b0 (B : Int) ha hb P B hP rfl h2 h36 W
  have cT := fun W => text_calls a1 b1 (B : Int) hc hd Q B hQ rfl h2 h36 W
  have cU := fun W => ruless_calls W a0 b0 a1 b1 ha hb hc hd W (Ext.refl W)
  have hs := text_length B P h2 hl
  have ht := text_length B Q h2 hm
  have hlt := text_lt B h2 h36 P Q hl hm
  have hqp : (a0 == a1 && b0 == b1) = decide (P = Q) := by
    rw [Bool.eq_iff_iff]
    simp only [Bool.and_eq_true, beq_iff_eq, decide_eq_true_eq]
    constructor
    · rintro ⟨rfl, rfl⟩
      rw [hP] at hQ
      omega
    · intro h
      subst h
      exact ⟨e1.trans f1.symm, e2.trans f2.symm⟩
  have hu : decide (W a0 b0 < W a1 b1) = decide (P < Q) := by rw [hP, hQ]; simp
  rw [hu] at cU
  have tS : (bytes (text B P)).toList = text B P := by rw [Lib.toList_data, bytes_list]
  have tT : (bytes (text B Q)).toList = text B Q := by rw [Lib.toList_data, bytes_list]
  have zS := bytes_size (text B P)
  have zT := bytes_size (text B Q)
  have hinj := text_inj B P Q h2 h36 hl hm
  have hne : (bytes (text B P)).size ≠ (bytes (text B Q)).size → text B P ≠ text B Q := fun h e => h (by rw [e])
  by_cases hl1 : (bytes (text B P)).size < (bytes (text B Q)).size
  · have hPQ : P < Q := hlt.1 (.inl (by omega))
    refine way_less a0 b0 a1 b1 c B _ _ hB _ _ cS cT cU hqp (by omega) (by omega) (by omega) (decide_eq_true hPQ) (decide_eq_false (by omega)) ?_ w
    rw [tS, tT, beq_eq_false_iff_ne]
    exact hne (by omega)
  · by_cases hl2 : (bytes (text B P)).size = (bytes (text B Q)).size
    · refine way_same a0 b0 a1 b1 c B _ _ hB _ _ cS cT cU hqp (by omega) (by omega) (by omega) (by rw [beq_iff_eq]; omega) ?_ ?_ w
      · rw [tS, tT, bytesLess_eq, Bool.eq_iff_iff, decide_eq_true_eq, decide_eq_true_eq]
        constructor
        · intro h; exact hlt.1 (.inr ⟨by omega, h⟩)
        · intro h
          rcases hlt.2 h with h | h
          · omega
          · exact h.2
      · rw [tS, tT, Bool.eq_iff_iff, beq_iff_eq, decide_eq_true_eq]
        constructor
        · exact hinj
        · intro h; rw [h]
    · have hQP : ¬ P < Q := fun h => by
        rcases hlt.2 h with h | h <;> omega
      have hnq : P ≠ Q := fun h => hl2 (by rw [h])
      refine way_more a0 b0 a1 b1 c B _ _ hB _ _ cS cT cU hqp (by omega) (by omega) (by omega) (decide_eq_false hQP) (decide_eq_false hnq) ?_ w
      rw [tS, tT, beq_eq_false_iff_ne]
      exact hne hl2

set_option maxRecDepth 100000 in
theorem lifted (os : Os) (started : os.Started) (H : Type) (enc : TypeId × Value → H) :
    ReturnsInHanded {} Try.checked os 7 .any (Rows.digitLessSpec.pre6 enc Try.prog Try.f7 Rows.digitLessRow.domain false) (Rows.digitLessSpec.post enc Try.prog Try.f7 false true false false) := by
  refine returnsInHanded_of_change (C := Try.checked) own started (by kernel_rfl) Try.func7
    (ChangeSpec.witness6 (enc := enc) (C := Try.checked) false ⟨#[], #[.agg #[.int .i64 0, .int .i64 0], .agg #[.int .i64 0, .int .i64 0], .int .u8 0], []⟩ 8 (by kernel_rfl) (by kernel_rfl) (by kernel_rfl) (by kernel_rfl)) ?_
  intro W base args ds gs before hval0 hW hcnd _
  have hval : ∀ (j : Nat) t v, Try.f7.params[j]? = some t → args[j]? = some v → Value.okWide Try.prog W .any base t v := hval0
  have hW' := hW
  obtain ⟨p, q, hA0, hV, rfl, hfz, hnd⟩ := hW
  have hA : DataW.TrodAll enc Try.prog W 0 (fun _ => true) true Try.f7.params.toList args.toList ds p := hA0
  rw [Try.params7] at hA hval
  obtain ⟨v0, vs0, d0, ds0, p0, q0, hargs, rfl, rfl, h0, r0⟩ := trodAll_cons hA
  obtain ⟨v1, vs1, d1, ds1, p1, q1, rfl, rfl, rfl, h1, r1⟩ := trodAll_cons r0
  obtain ⟨v2, vs2, d2, ds2, p2, q2, rfl, rfl, rfl, h2, r2⟩ := trodAll_cons r1
  obtain ⟨rfl, rfl, rfl⟩ := trodAll_nil r2
  obtain rfl : args = #[v0, v1, v2] := by cases args; simp_all
  obtain ⟨rfl, rfl⟩ := trodVars_none hV
  obtain ⟨a0, b0, rfl, rfl, rfl, w0, v0'⟩ := open_pair (hval 0 24 v0 rfl rfl) h0
  obtain ⟨a1, b1, rfl, rfl, rfl, w1, v1'⟩ := open_pair (hval 1 24 v1 rfl rfl) h1
  obtain ⟨a2, rfl, rfl, rfl, w2⟩ := open_int Try.underlying5 (hval 2 5 v2 rfl rfl) h2
  clear hA0 hval0
  simp only [List.append_nil] at hW'
  refine (walk a0 b0 w0 v0' a1 b1 w1 v1' a2 w2 W).mono fun e W' ⟨he, hg⟩ => ?_
  subst he
  exact ⟨_, rfl, post_of_same (pa := []) (pv := []) hW' (fun _ _ _ => (trodAll_cons_mk (shut_bool Try.underlying4 _) trodAll_mk0)) (fun sp _ => (trodAll_cons_mk (shut_pair w0 v0') (trodAll_cons_mk (shut_pair w1 v1') (trodAll_cons_mk (shut_int Try.underlying5 w2) trodAll_mk0)))) (fun _ _ => rfl) rfl
    (hg.frame _) hg.2.1 (ok_one (by kernel_rfl) rfl (okWide_bool_mk Try.underlying4 _))⟩

theorem over : Rows.digitLessRow.holds Try.pinned (OpenSpec.ofChange Rows.digitLessSpec) :=
  OpenClaim.holds_of_wide 7 Try.f7 rfl rfl rfl rfl rfl rfl rfl ⟨rfl, rfl, rfl, rfl, rfl⟩ rfl rfl rfl rfl rfl (by kernel_rfl) Try.func7 (by kernel_rfl)
    (of_decide_eq_true (by kernel_rfl)) (by unfold Func.isWrapper; first | (rw [if_pos (by decide +kernel)]; kernel_rfl) | (rw [if_neg (by decide +kernel)]; exact ⟨rfl, rfl⟩))
    (fun os started H enc _ => lifted os started H enc)

/-- THE STATEMENT -/
theorem proved : Rows.DigitLessSaid :=
  over
#print axioms proved
end Go.Proofs.Ytoaijcahjmkkpaa.digitLess
