/- The document's answers for layer 2: the walks of the division that rounds down. Condition: cells are integers of 64 bits. -/
import Derived.Test.YtfehpfcpeiopiaaC2RefE
namespace Go.Proofs.Ytfehpfcpeiopiaa
open Go.RowKit
set_option linter.unusedVariables false

theorem rfloor_zero (w0 : World) (a c r q : Int) (k : Bool) (w : World) (h : Ext w0 w) :
    Calls Try.prog 32 #[.agg #[.int .i64 a, .int .i64 c], .int .i64 0] w fun e w' => e = .returned (.tuple #[.int .i64 (okR true k r), .int .i64 (okR true k q), .int .i64 (okE true k)]) ∧ Ext w0 w' := by
  go_enter Try.func32, Try.ntmps32
  go_wp2
  go_ret3
  exact ⟨rfl, h.cells _ _⟩
set_option maxRecDepth 100000 in
set_option maxHeartbeats 1000000 in
theorem rfloor_p_least (w0 : World) (a c b x y yb : Int) (hz2 : (b == 0) = false) (hz3 : ¬ b = 0) (hbn : 0 ≤ b) (HL : (a == 0 && c == -9223372036854775808) = true)
     (w : World) (h : Ext w0 w) :
    Calls Try.prog 32 #[.agg #[.int .i64 a, .int .i64 c], .int .i64 b] w fun e w' => e = .returned (.tuple #[.int .i64 0, .int .i64 0, .int .i64 (-11)]) ∧ Ext w0 w' := by
  have db : decide (b < 0) = false := by simp; omega
  have hc : c = -9223372036854775808 := by simp at HL; exact HL.2
  have ha : a = 0 := by simp at HL; exact HL.1
  subst hc ha
  clear HL
  go_enter Try.func32, Try.ntmps32
  go_wp2_with fail
  go_ret3
  exact ⟨rfl, (h.cells _ _).cells _ _⟩
set_option maxRecDepth 100000 in
set_option maxHeartbeats 1000000 in
theorem rfloor_n_least (w0 : World) (a c b x y yb : Int) (hz2 : (b == 0) = false) (hz3 : ¬ b = 0) (hbn : b < 0) (HL : (a == 0 && c == -9223372036854775808) = true)
    (hng : RowKit.Hid (∀ W, Calls Try.prog 14 #[.agg #[.int .i64 a, .int .i64 c]] W fun e w' => e = .returned (.agg #[.int .i64 x, .int .i64 y]) ∧ Ext W w')) (hY : y < 0) (w : World) (h : Ext w0 w) :
    Calls Try.prog 32 #[.agg #[.int .i64 a, .int .i64 c], .int .i64 b] w fun e w' => e = .returned (.tuple #[.int .i64 0, .int .i64 0, .int .i64 (-11)]) ∧ Ext w0 w' := by
  have db : decide (b < 0) = true := by simp; omega
  have dY : decide (y < 0) = true := by simp; omega
  have HE := Lib.hid HL
  go_enter Try.func32, Try.ntmps32
  go_wp2_with fail
  have hs0 := h.1.size
  obtain ⟨o0, o1⟩ := own2 w (.int .i64 a) (.int .i64 c) (.int .i64 a) (.int .i64 c)
  have hX := (h.cells #[.int .i64 a, .int .i64 c] 24).cells #[.int .i64 a, .int .i64 c] 24
  clear h
  refine (hng.out _).mono ?_
  rintro e w1 ⟨rfl, w1x⟩
  replace o0 := o0.ext w1x
  replace o1 := o1.ext w1x
  replace hX := hX.trans w1x
  clear w1x hng
  have g0 := o1.c0
  have g1 := o1.c1
  have f0 := o1.f0
  have f1 := o1.f1
  have p0 := o0.c0
  have p1 := o0.c1
  have lt := o1.lt
  go_wp2_with fail
  replace o0 := o0.other (b' := w.heap.size + 1) (by omega) (.int .i64 x) (.int .i64 y)
  replace o1 := o1.set (.int .i64 x) (.int .i64 y)
  replace hX := hX.set2 (n := w.heap.size + 1) (by omega) (.int .i64 x) (.int .i64 y)
  clear g0 g1 f0 f1 lt p0 p1
  go_ret3
  exact ⟨rfl, hX⟩
set_option maxRecDepth 100000 in
set_option maxHeartbeats 1000000 in
theorem rfloor_p_p_y (w0 : World) (a c b x y yb x2 y2 L q0 q1 n0 n1 m0 m1 M F : Int) (hz2 : (b == 0) = false) (hz3 : ¬ b = 0) (hbn : 0 ≤ b) (HL : (a == 0 && c == -9223372036854775808) = false)
    (hY : 0 ≤ c) (hlg : RowKit.Hid (∀ W, Calls Try.prog 42 #[.agg #[.int .i64 a, .int .i64 c], .int .i64 b] W fun e w' => e = .returned (.tuple #[.int .i64 L, .agg #[.int .i64 q0, .int .i64 q1]]) ∧ Ext W w')) (hft : RowKit.Hid (∀ W, Calls Try.prog 45 #[.agg #[.int .i64 q0, .int .i64 q1]] W fun e w' => e = .returned (.bool true) ∧ Ext W w')) (w : World) (h : Ext w0 w) :
    Calls Try.prog 32 #[.agg #[.int .i64 a, .int .i64 c], .int .i64 b] w fun e w' => e = .returned (.tuple #[.int .i64 L, .int .i64 q0, .int .i64 0]) ∧ Ext w0 w' := by
  have db : decide (b < 0) = false := by simp; omega
  have dY : decide (c < 0) = false := by simp; omega
  go_enter Try.func32, Try.ntmps32
  go_wp2_with fail
  have hs0 := h.1.size
  obtain ⟨o0, o1⟩ := own2 w (.int .i64 a) (.int .i64 c) (.int .i64 a) (.int .i64 c)
  have hX := (h.cells #[.int .i64 a, .int .i64 c] 24).cells #[.int .i64 a, .int .i64 c] 24
  clear h
  refine (hlg.out _).mono ?_
  rintro e w2 ⟨rfl, hx2⟩
  replace hX := hX.trans hx2
  clear hx2 hlg o0 o1
  have hs2 := hX.1.size
  go_wp2_with fail
  have o3 := Own.last (X := w2) (x := Value.int .i64 q0) (y := Value.int .i64 q1) (t := 24)
  replace hX := hX.cells #[.int .i64 q0, .int .i64 q1] 24
  refine (hft.out _).mono ?_
  rintro e w4 ⟨rfl, hx4⟩
  replace o3 := o3.ext hx4
  replace hX := hX.trans hx4
  clear hx4 hft
  have g0 := o3.c0
  go_wp2_with fail
  go_region
  go_wp2
  go_ret3
  exact ⟨rfl, hX.drew⟩
set_option maxRecDepth 100000 in
set_option maxHeartbeats 1000000 in
theorem rfloor_p_p_n (w0 : World) (a c b x y yb x2 y2 L q0 q1 n0 n1 m0 m1 M F : Int) (hz2 : (b == 0) = false) (hz3 : ¬ b = 0) (hbn : 0 ≤ b) (HL : (a == 0 && c == -9223372036854775808) = false)
    (hY : 0 ≤ c) (hlg : RowKit.Hid (∀ W, Calls Try.prog 42 #[.agg #[.int .i64 a, .int .i64 c], .int .i64 b] W fun e w' => e = .returned (.tuple #[.int .i64 L, .agg #[.int .i64 q0, .int .i64 q1]]) ∧ Ext W w')) (hft : RowKit.Hid (∀ W, Calls Try.prog 45 #[.agg #[.int .i64 q0, .int .i64 q1]] W fun e w' => e = .returned (.bool false) ∧ Ext W w')) (w : World) (h : Ext w0 w) :
    Calls Try.prog 32 #[.agg #[.int .i64 a, .int .i64 c], .int .i64 b] w fun e w' => e = .returned (.tuple #[.int .i64 0, .int .i64 0, .int .i64 (-11)]) ∧ Ext w0 w' := by
  have db : decide (b < 0) = false := by simp; omega
  have dY : decide (c < 0) = false := by simp; omega
  go_enter Try.func32, Try.ntmps32
  go_wp2_with fail
  have hs0 := h.1.size
  obtain ⟨o0, o1⟩ := own2 w (.int .i64 a) (.int .i64 c) (.int .i64 a) (.int .i64 c)
  have hX := (h.cells #[.int .i64 a, .int .i64 c] 24).cells #[.int .i64 a, .int .i64 c] 24
  clear h
  refine (hlg.out _).mono ?_
  rintro e w2 ⟨rfl, hx2⟩
  replace hX := hX.trans hx2
  clear hx2 hlg o0 o1
  have hs2 := hX.1.size
  go_wp2_with fail
  have o3 := Own.last (X := w2) (x := Value.int .i64 q0) (y := Value.int .i64 q1) (t := 24)
  replace hX := hX.cells #[.int .i64 q0, .int .i64 q1] 24
  refine (hft.out _).mono ?_
  rintro e w4 ⟨rfl, hx4⟩
  replace o3 := o3.ext hx4
  replace hX := hX.trans hx4
  clear hx4 hft
  have g0 := o3.c0
  go_wp2_with fail
  go_ret3
  exact ⟨rfl, hX⟩
set_option maxRecDepth 100000 in
set_option maxHeartbeats 1000000 in
theorem rfloor_p_z_y (w0 : World) (a c b x y yb x2 y2 L q0 q1 n0 n1 m0 m1 M F : Int) (hz2 : (b == 0) = false) (hz3 : ¬ b = 0) (hbn : 0 ≤ b) (HL : (a == 0 && c == -9223372036854775808) = false)
    (hY : c < 0) (hng2 : RowKit.Hid (∀ W, Calls Try.prog 14 #[.agg #[.int .i64 a, .int .i64 c]] W fun e w' => e = .returned (.agg #[.int .i64 x2, .int .i64 y2]) ∧ Ext W w')) (hlg : RowKit.Hid (∀ W, Calls Try.prog 42 #[.agg #[.int .i64 x2, .int .i64 y2], .int .i64 b] W fun e w' => e = .returned (.tuple #[.int .i64 L, .agg #[.int .i64 q0, .int .i64 q1]]) ∧ Ext W w')) (hn3 : RowKit.Hid (∀ W, Calls Try.prog 14 #[.agg #[.int .i64 q0, .int .i64 q1]] W fun e w' => e = .returned (.agg #[.int .i64 n0, .int .i64 n1]) ∧ Ext W w')) (hL : (L != 0) = false) (hft : RowKit.Hid (∀ W, Calls Try.prog 45 #[.agg #[.int .i64 n0, .int .i64 n1]] W fun e w' => e = .returned (.bool true) ∧ Ext W w')) (w : World) (h : Ext w0 w) :
    Calls Try.prog 32 #[.agg #[.int .i64 a, .int .i64 c], .int .i64 b] w fun e w' => e = .returned (.tuple #[.int .i64 L, .int .i64 n0, .int .i64 0]) ∧ Ext w0 w' := by
  have db : decide (b < 0) = false := by simp; omega
  have dY : decide (c < 0) = true := by simp; omega
  go_enter Try.func32, Try.ntmps32
  go_wp2_with fail
  have hs0 := h.1.size
  obtain ⟨o0, o1⟩ := own2 w (.int .i64 a) (.int .i64 c) (.int .i64 a) (.int .i64 c)
  have hX := (h.cells #[.int .i64 a, .int .i64 c] 24).cells #[.int .i64 a, .int .i64 c] 24
  clear h
  refine (hng2.out _).mono ?_
  rintro e w1b ⟨rfl, w1bx⟩
  replace o0 := o0.ext w1bx
  replace o1 := o1.ext w1bx
  replace hX := hX.trans w1bx
  clear w1bx hng2
  have g0 := o1.c0
  have g1 := o1.c1
  have f0 := o1.f0
  have f1 := o1.f1
  have p0 := o0.c0
  have p1 := o0.c1
  have lt := o1.lt
  go_wp2_with fail
  replace o0 := o0.other (b' := w.heap.size + 1) (by omega) (.int .i64 x2) (.int .i64 y2)
  replace o1 := o1.set (.int .i64 x2) (.int .i64 y2)
  replace hX := hX.set2 (n := w.heap.size + 1) (by omega) (.int .i64 x2) (.int .i64 y2)
  clear g0 g1 f0 f1 lt p0 p1
  refine (hlg.out _).mono ?_
  rintro e w2 ⟨rfl, hx2⟩
  replace hX := hX.trans hx2
  clear hx2 hlg o0 o1
  have hs2 := hX.1.size
  go_wp2_with fail
  have o3 := Own.last (X := w2) (x := Value.int .i64 q0) (y := Value.int .i64 q1) (t := 24)
  replace hX := hX.cells #[.int .i64 q0, .int .i64 q1] 24
  refine (hn3.out _).mono ?_
  rintro e w3 ⟨rfl, w3x⟩
  replace o3 := o3.ext w3x
  replace hX := hX.trans w3x
  clear w3x hn3
  have g0 := o3.c0
  have g1 := o3.c1
  have f0 := o3.f0
  have f1 := o3.f1
  have lt := o3.lt
  go_wp2_with fail
  replace o3 := o3.set (.int .i64 n0) (.int .i64 n1)
  replace hX := hX.set2 (n := w2.heap.size) (by omega) (.int .i64 n0) (.int .i64 n1)
  clear g0 g1 f0 f1 lt
  refine (hft.out _).mono ?_
  rintro e w4 ⟨rfl, hx4⟩
  replace o3 := o3.ext hx4
  replace hX := hX.trans hx4
  clear hx4 hft
  have g0 := o3.c0
  go_wp2_with fail
  go_region
  go_wp2
  go_ret3
  exact ⟨rfl, hX.drew⟩
set_option maxRecDepth 100000 in
set_option maxHeartbeats 1000000 in
theorem rfloor_p_z_n (w0 : World) (a c b x y yb x2 y2 L q0 q1 n0 n1 m0 m1 M F : Int) (hz2 : (b == 0) = false) (hz3 : ¬ b = 0) (hbn : 0 ≤ b) (HL : (a == 0 && c == -9223372036854775808) = false)
    (hY : c < 0) (hng2 : RowKit.Hid (∀ W, Calls Try.prog 14 #[.agg #[.int .i64 a, .int .i64 c]] W fun e w' => e = .returned (.agg #[.int .i64 x2, .int .i64 y2]) ∧ Ext W w')) (hlg : RowKit.Hid (∀ W, Calls Try.prog 42 #[.agg #[.int .i64 x2, .int .i64 y2], .int .i64 b] W fun e w' => e = .returned (.tuple #[.int .i64 L, .agg #[.int .i64 q0, .int .i64 q1]]) ∧ Ext W w')) (hn3 : RowKit.Hid (∀ W, Calls Try.prog 14 #[.agg #[.int .i64 q0, .int .i64 q1]] W fun e w' => e = .returned (.agg #[.int .i64 n0, .int .i64 n1]) ∧ Ext W w')) (hL : (L != 0) = false) (hft : RowKit.Hid (∀ W, Calls Try.prog 45 #[.agg #[.int .i64 n0, .int .i64 n1]] W fun e w' => e = .returned (.bool false) ∧ Ext W w')) (w : World) (h : Ext w0 w) :
    Calls Try.prog 32 #[.agg #[.int .i64 a, .int .i64 c], .int .i64 b] w fun e w' => e = .returned (.tuple #[.int .i64 0, .int .i64 0, .int .i64 (-11)]) ∧ Ext w0 w' := by
  have db : decide (b < 0) = false := by simp; omega
  have dY : decide (c < 0) = true := by simp; omega
  go_enter Try.func32, Try.ntmps32
  go_wp2_with fail
  have hs0 := h.1.size
  obtain ⟨o0, o1⟩ := own2 w (.int .i64 a) (.int .i64 c) (.int .i64 a) (.int .i64 c)
  have hX := (h.cells #[.int .i64 a, .int .i64 c] 24).cells #[.int .i64 a, .int .i64 c] 24
  clear h
  refine (hng2.out _).mono ?_
  rintro e w1b ⟨rfl, w1bx⟩
  replace o0 := o0.ext w1bx
  replace o1 := o1.ext w1bx
  replace hX := hX.trans w1bx
  clear w1bx hng2
  have g0 := o1.c0
  have g1 := o1.c1
  have f0 := o1.f0
  have f1 := o1.f1
  have p0 := o0.c0
  have p1 := o0.c1
  have lt := o1.lt
  go_wp2_with fail
  replace o0 := o0.other (b' := w.heap.size + 1) (by omega) (.int .i64 x2) (.int .i64 y2)
  replace o1 := o1.set (.int .i64 x2) (.int .i64 y2)
  replace hX := hX.set2 (n := w.heap.size + 1) (by omega) (.int .i64 x2) (.int .i64 y2)
  clear g0 g1 f0 f1 lt p0 p1
  refine (hlg.out _).mono ?_
  rintro e w2 ⟨rfl, hx2⟩
  replace hX := hX.trans hx2
  clear hx2 hlg o0 o1
  have hs2 := hX.1.size
  go_wp2_with fail
  have o3 := Own.last (X := w2) (x := Value.int .i64 q0) (y := Value.int .i64 q1) (t := 24)
  replace hX := hX.cells #[.int .i64 q0, .int .i64 q1] 24
  refine (hn3.out _).mono ?_
  rintro e w3 ⟨rfl, w3x⟩
  replace o3 := o3.ext w3x
  replace hX := hX.trans w3x
  clear w3x hn3
  have g0 := o3.c0
  have g1 := o3.c1
  have f0 := o3.f0
  have f1 := o3.f1
  have lt := o3.lt
  go_wp2_with fail
  replace o3 := o3.set (.int .i64 n0) (.int .i64 n1)
  replace hX := hX.set2 (n := w2.heap.size) (by omega) (.int .i64 n0) (.int .i64 n1)
  clear g0 g1 f0 f1 lt
  refine (hft.out _).mono ?_
  rintro e w4 ⟨rfl, hx4⟩
  replace o3 := o3.ext hx4
  replace hX := hX.trans hx4
  clear hx4 hft
  have g0 := o3.c0
  go_wp2_with fail
  go_ret3
  exact ⟨rfl, hX⟩
set_option maxRecDepth 100000 in
set_option maxHeartbeats 1000000 in
theorem rfloor_p_m_y (w0 : World) (a c b x y yb x2 y2 L q0 q1 n0 n1 m0 m1 M F : Int) (hz2 : (b == 0) = false) (hz3 : ¬ b = 0) (hbn : 0 ≤ b) (HL : (a == 0 && c == -9223372036854775808) = false)
    (hY : c < 0) (hng2 : RowKit.Hid (∀ W, Calls Try.prog 14 #[.agg #[.int .i64 a, .int .i64 c]] W fun e w' => e = .returned (.agg #[.int .i64 x2, .int .i64 y2]) ∧ Ext W w')) (hlg : RowKit.Hid (∀ W, Calls Try.prog 42 #[.agg #[.int .i64 x2, .int .i64 y2], .int .i64 b] W fun e w' => e = .returned (.tuple #[.int .i64 L, .agg #[.int .i64 q0, .int .i64 q1]]) ∧ Ext W w')) (hn3 : RowKit.Hid (∀ W, Calls Try.prog 14 #[.agg #[.int .i64 q0, .int .i64 q1]] W fun e w' => e = .returned (.agg #[.int .i64 n0, .int .i64 n1]) ∧ Ext W w')) (hL : (L != 0) = true) (had : RowKit.Hid (∀ W, Calls Try.prog 12 #[.agg #[.int .i64 n0, .int .i64 n1], .agg #[.int .i64 (-1), .int .i64 (-1)]] W fun e w' => e = .returned (.agg #[.int .i64 m0, .int .i64 m1]) ∧ Ext W w')) (eM : wrap64 (b - L) = M) (hft : RowKit.Hid (∀ W, Calls Try.prog 45 #[.agg #[.int .i64 m0, .int .i64 m1]] W fun e w' => e = .returned (.bool true) ∧ Ext W w')) (w : World) (h : Ext w0 w) :
    Calls Try.prog 32 #[.agg #[.int .i64 a, .int .i64 c], .int .i64 b] w fun e w' => e = .returned (.tuple #[.int .i64 M, .int .i64 m0, .int .i64 0]) ∧ Ext w0 w' := by
  have db : decide (b < 0) = false := by simp; omega
  have dY : decide (c < 0) = true := by simp; omega
  go_enter Try.func32, Try.ntmps32
  go_wp2_with fail
  have hs0 := h.1.size
  obtain ⟨o0, o1⟩ := own2 w (.int .i64 a) (.int .i64 c) (.int .i64 a) (.int .i64 c)
  have hX := (h.cells #[.int .i64 a, .int .i64 c] 24).cells #[.int .i64 a, .int .i64 c] 24
  clear h
  refine (hng2.out _).mono ?_
  rintro e w1b ⟨rfl, w1bx⟩
  replace o0 := o0.ext w1bx
  replace o1 := o1.ext w1bx
  replace hX := hX.trans w1bx
  clear w1bx hng2
  have g0 := o1.c0
  have g1 := o1.c1
  have f0 := o1.f0
  have f1 := o1.f1
  have p0 := o0.c0
  have p1 := o0.c1
  have lt := o1.lt
  go_wp2_with fail
  replace o0 := o0.other (b' := w.heap.size + 1) (by omega) (.int .i64 x2) (.int .i64 y2)
  replace o1 := o1.set (.int .i64 x2) (.int .i64 y2)
  replace hX := hX.set2 (n := w.heap.size + 1) (by omega) (.int .i64 x2) (.int .i64 y2)
  clear g0 g1 f0 f1 lt p0 p1
  refine (hlg.out _).mono ?_
  rintro e w2 ⟨rfl, hx2⟩
  replace hX := hX.trans hx2
  clear hx2 hlg o0 o1
  have hs2 := hX.1.size
  go_wp2_with fail
  have o3 := Own.last (X := w2) (x := Value.int .i64 q0) (y := Value.int .i64 q1) (t := 24)
  replace hX := hX.cells #[.int .i64 q0, .int .i64 q1] 24
  refine (hn3.out _).mono ?_
  rintro e w3 ⟨rfl, w3x⟩
  replace o3 := o3.ext w3x
  replace hX := hX.trans w3x
  clear w3x hn3
  have g0 := o3.c0
  have g1 := o3.c1
  have f0 := o3.f0
  have f1 := o3.f1
  have lt := o3.lt
  go_wp2_with fail
  replace o3 := o3.set (.int .i64 n0) (.int .i64 n1)
  replace hX := hX.set2 (n := w2.heap.size) (by omega) (.int .i64 n0) (.int .i64 n1)
  clear g0 g1 f0 f1 lt
  refine (had.out _).mono ?_
  rintro e w3b ⟨rfl, w3bx⟩
  replace o3 := o3.ext w3bx
  replace hX := hX.trans w3bx
  clear w3bx had
  have g0 := o3.c0
  have g1 := o3.c1
  have f0 := o3.f0
  have f1 := o3.f1
  have lt := o3.lt
  go_wp2_with fail
  replace o3 := o3.set (.int .i64 m0) (.int .i64 m1)
  replace hX := hX.set2 (n := w2.heap.size) (by omega) (.int .i64 m0) (.int .i64 m1)
  clear g0 g1 f0 f1 lt
  refine (hft.out _).mono ?_
  rintro e w4 ⟨rfl, hx4⟩
  replace o3 := o3.ext hx4
  replace hX := hX.trans hx4
  clear hx4 hft
  have g0 := o3.c0
  go_wp2_with fail
  go_region
  go_wp2
  go_ret3
  exact ⟨rfl, hX.drew⟩
set_option maxRecDepth 100000 in
set_option maxHeartbeats 1000000 in
theorem rfloor_p_m_n (w0 : World) (a c b x y yb x2 y2 L q0 q1 n0 n1 m0 m1 M F : Int) (hz2 : (b == 0) = false) (hz3 : ¬ b = 0) (hbn : 0 ≤ b) (HL : (a == 0 && c == -9223372036854775808) = false)
    (hY : c < 0) (hng2 : RowKit.Hid (∀ W, Calls Try.prog 14 #[.agg #[.int .i64 a, .int .i64 c]] W fun e w' => e = .returned (.agg #[.int .i64 x2, .int .i64 y2]) ∧ Ext W w')) (hlg : RowKit.Hid (∀ W, Calls Try.prog 42 #[.agg #[.int .i64 x2, .int .i64 y2], .int .i64 b] W fun e w' => e = .returned (.tuple #[.int .i64 L, .agg #[.int .i64 q0, .int .i64 q1]]) ∧ Ext W w')) (hn3 : RowKit.Hid (∀ W, Calls Try.prog 14 #[.agg #[.int .i64 q0, .int .i64 q1]] W fun e w' => e = .returned (.agg #[.int .i64 n0, .int .i64 n1]) ∧ Ext W w')) (hL : (L != 0) = true) (had : RowKit.Hid (∀ W, Calls Try.prog 12 #[.agg #[.int .i64 n0, .int .i64 n1], .agg #[.int .i64 (-1), .int .i64 (-1)]] W fun e w' => e = .returned (.agg #[.int .i64 m0, .int .i64 m1]) ∧ Ext W w')) (eM : wrap64 (b - L) = M) (hft : RowKit.Hid (∀ W, Calls Try.prog 45 #[.agg #[.int .i64 m0, .int .i64 m1]] W fun e w' => e = .returned (.bool false) ∧ Ext W w')) (w : World) (h : Ext w0 w) :
    Calls Try.prog 32 #[.agg #[.int .i64 a, .int .i64 c], .int .i64 b] w fun e w' => e = .returned (.tuple #[.int .i64 0, .int .i64 0, .int .i64 (-11)]) ∧ Ext w0 w' := by
  have db : decide (b < 0) = false := by simp; omega
  have dY : decide (c < 0) = true := by simp; omega
  go_enter Try.func32, Try.ntmps32
  go_wp2_with fail
  have hs0 := h.1.size
  obtain ⟨o0, o1⟩ := own2 w (.int .i64 a) (.int .i64 c) (.int .i64 a) (.int .i64 c)
  have hX := (h.cells #[.int .i64 a, .int .i64 c] 24).cells #[.int .i64 a, .int .i64 c] 24
  clear h
  refine (hng2.out _).mono ?_
  rintro e w1b ⟨rfl, w1bx⟩
  replace o0 := o0.ext w1bx
  replace o1 := o1.ext w1bx
  replace hX := hX.trans w1bx
  clear w1bx hng2
  have g0 := o1.c0
  have g1 := o1.c1
  have f0 := o1.f0
  have f1 := o1.f1
  have p0 := o0.c0
  have p1 := o0.c1
  have lt := o1.lt
  go_wp2_with fail
  replace o0 := o0.other (b' := w.heap.size + 1) (by omega) (.int .i64 x2) (.int .i64 y2)
  replace o1 := o1.set (.int .i64 x2) (.int .i64 y2)
  replace hX := hX.set2 (n := w.heap.size + 1) (by omega) (.int .i64 x2) (.int .i64 y2)
  clear g0 g1 f0 f1 lt p0 p1
  refine (hlg.out _).mono ?_
  rintro e w2 ⟨rfl, hx2⟩
  replace hX := hX.trans hx2
  clear hx2 hlg o0 o1
  have hs2 := hX.1.size
  go_wp2_with fail
  have o3 := Own.last (X := w2) (x := Value.int .i64 q0) (y := Value.int .i64 q1) (t := 24)
  replace hX := hX.cells #[.int .i64 q0, .int .i64 q1] 24
  refine (hn3.out _).mono ?_
  rintro e w3 ⟨rfl, w3x⟩
  replace o3 := o3.ext w3x
  replace hX := hX.trans w3x
  clear w3x hn3
  have g0 := o3.c0
  have g1 := o3.c1
  have f0 := o3.f0
  have f1 := o3.f1
  have lt := o3.lt
  go_wp2_with fail
  replace o3 := o3.set (.int .i64 n0) (.int .i64 n1)
  replace hX := hX.set2 (n := w2.heap.size) (by omega) (.int .i64 n0) (.int .i64 n1)
  clear g0 g1 f0 f1 lt
  refine (had.out _).mono ?_
  rintro e w3b ⟨rfl, w3bx⟩
  replace o3 := o3.ext w3bx
  replace hX := hX.trans w3bx
  clear w3bx had
  have g0 := o3.c0
  have g1 := o3.c1
  have f0 := o3.f0
  have f1 := o3.f1
  have lt := o3.lt
  go_wp2_with fail
  replace o3 := o3.set (.int .i64 m0) (.int .i64 m1)
  replace hX := hX.set2 (n := w2.heap.size) (by omega) (.int .i64 m0) (.int .i64 m1)
  clear g0 g1 f0 f1 lt
  refine (hft.out _).mono ?_
  rintro e w4 ⟨rfl, hx4⟩
  replace o3 := o3.ext hx4
  replace hX := hX.trans hx4
  clear hx4 hft
  have g0 := o3.c0
  go_wp2_with fail
  go_ret3
  exact ⟨rfl, hX⟩
set_option maxRecDepth 100000 in
set_option maxHeartbeats 1000000 in
theorem rfloor_n_p_y (w0 : World) (a c b x y yb x2 y2 L q0 q1 n0 n1 m0 m1 M F : Int) (hz2 : (b == 0) = false) (hz3 : ¬ b = 0) (hbn : b < 0) (HL : (a == 0 && c == -9223372036854775808) = false)
    (hng : RowKit.Hid (∀ W, Calls Try.prog 14 #[.agg #[.int .i64 a, .int .i64 c]] W fun e w' => e = .returned (.agg #[.int .i64 x, .int .i64 y]) ∧ Ext W w')) (eyb : wrap64 (-b) = yb) (hY : 0 ≤ y) (hlg : RowKit.Hid (∀ W, Calls Try.prog 42 #[.agg #[.int .i64 x, .int .i64 y], .int .i64 yb] W fun e w' => e = .returned (.tuple #[.int .i64 L, .agg #[.int .i64 q0, .int .i64 q1]]) ∧ Ext W w')) (eF : wrap64 (-L) = F) (hft : RowKit.Hid (∀ W, Calls Try.prog 45 #[.agg #[.int .i64 q0, .int .i64 q1]] W fun e w' => e = .returned (.bool true) ∧ Ext W w')) (w : World) (h : Ext w0 w) :
    Calls Try.prog 32 #[.agg #[.int .i64 a, .int .i64 c], .int .i64 b] w fun e w' => e = .returned (.tuple #[.int .i64 F, .int .i64 q0, .int .i64 0]) ∧ Ext w0 w' := by
  have db : decide (b < 0) = true := by simp; omega
  have dY : decide (y < 0) = false := by simp; omega
  go_enter Try.func32, Try.ntmps32
  go_wp2_with fail
  have hs0 := h.1.size
  obtain ⟨o0, o1⟩ := own2 w (.int .i64 a) (.int .i64 c) (.int .i64 a) (.int .i64 c)
  have hX := (h.cells #[.int .i64 a, .int .i64 c] 24).cells #[.int .i64 a, .int .i64 c] 24
  clear h
  refine (hng.out _).mono ?_
  rintro e w1 ⟨rfl, w1x⟩
  replace o0 := o0.ext w1x
  replace o1 := o1.ext w1x
  replace hX := hX.trans w1x
  clear w1x hng
  have g0 := o1.c0
  have g1 := o1.c1
  have f0 := o1.f0
  have f1 := o1.f1
  have p0 := o0.c0
  have p1 := o0.c1
  have lt := o1.lt
  go_wp2_with fail
  replace o0 := o0.other (b' := w.heap.size + 1) (by omega) (.int .i64 x) (.int .i64 y)
  replace o1 := o1.set (.int .i64 x) (.int .i64 y)
  replace hX := hX.set2 (n := w.heap.size + 1) (by omega) (.int .i64 x) (.int .i64 y)
  clear g0 g1 f0 f1 lt p0 p1
  refine (hlg.out _).mono ?_
  rintro e w2 ⟨rfl, hx2⟩
  replace hX := hX.trans hx2
  clear hx2 hlg o0 o1
  have hs2 := hX.1.size
  go_wp2_with fail
  have o3 := Own.last (X := w2) (x := Value.int .i64 q0) (y := Value.int .i64 q1) (t := 24)
  replace hX := hX.cells #[.int .i64 q0, .int .i64 q1] 24
  refine (hft.out _).mono ?_
  rintro e w4 ⟨rfl, hx4⟩
  replace o3 := o3.ext hx4
  replace hX := hX.trans hx4
  clear hx4 hft
  have g0 := o3.c0
  go_wp2_with fail
  go_region
  go_wp2
  go_ret3
  exact ⟨rfl, hX.drew⟩
set_option maxRecDepth 100000 in
set_option maxHeartbeats 1000000 in
theorem rfloor_n_p_n (w0 : World) (a c b x y yb x2 y2 L q0 q1 n0 n1 m0 m1 M F : Int) (hz2 : (b == 0) = false) (hz3 : ¬ b = 0) (hbn : b < 0) (HL : (a == 0 && c == -9223372036854775808) = false)
    (hng : RowKit.Hid (∀ W, Calls Try.prog 14 #[.agg #[.int .i64 a, .int .i64 c]] W fun e w' => e = .returned (.agg #[.int .i64 x, .int .i64 y]) ∧ Ext W w')) (eyb : wrap64 (-b) = yb) (hY : 0 ≤ y) (hlg : RowKit.Hid (∀ W, Calls Try.prog 42 #[.agg #[.int .i64 x, .int .i64 y], .int .i64 yb] W fun e w' => e = .returned (.tuple #[.int .i64 L, .agg #[.int .i64 q0, .int .i64 q1]]) ∧ Ext W w')) (eF : wrap64 (-L) = F) (hft : RowKit.Hid (∀ W, Calls Try.prog 45 #[.agg #[.int .i64 q0, .int .i64 q1]] W fun e w' => e = .returned (.bool false) ∧ Ext W w')) (w : World) (h : Ext w0 w) :
    Calls Try.prog 32 #[.agg #[.int .i64 a, .int .i64 c], .int .i64 b] w fun e w' => e = .returned (.tuple #[.int .i64 0, .int .i64 0, .int .i64 (-11)]) ∧ Ext w0 w' := by
  have db : decide (b < 0) = true := by simp; omega
  have dY : decide (y < 0) = false := by simp; omega
  go_enter Try.func32, Try.ntmps32
  go_wp2_with fail
  have hs0 := h.1.size
  obtain ⟨o0, o1⟩ := own2 w (.int .i64 a) (.int .i64 c) (.int .i64 a) (.int .i64 c)
  have hX := (h.cells #[.int .i64 a, .int .i64 c] 24).cells #[.int .i64 a, .int .i64 c] 24
  clear h
  refine (hng.out _).mono ?_
  rintro e w1 ⟨rfl, w1x⟩
  replace o0 := o0.ext w1x
  replace o1 := o1.ext w1x
  replace hX := hX.trans w1x
  clear w1x hng
  have g0 := o1.c0
  have g1 := o1.c1
  have f0 := o1.f0
  have f1 := o1.f1
  have p0 := o0.c0
  have p1 := o0.c1
  have lt := o1.lt
  go_wp2_with fail
  replace o0 := o0.other (b' := w.heap.size + 1) (by omega) (.int .i64 x) (.int .i64 y)
  replace o1 := o1.set (.int .i64 x) (.int .i64 y)
  replace hX := hX.set2 (n := w.heap.size + 1) (by omega) (.int .i64 x) (.int .i64 y)
  clear g0 g1 f0 f1 lt p0 p1
  refine (hlg.out _).mono ?_
  rintro e w2 ⟨rfl, hx2⟩
  replace hX := hX.trans hx2
  clear hx2 hlg o0 o1
  have hs2 := hX.1.size
  go_wp2_with fail
  have o3 := Own.last (X := w2) (x := Value.int .i64 q0) (y := Value.int .i64 q1) (t := 24)
  replace hX := hX.cells #[.int .i64 q0, .int .i64 q1] 24
  refine (hft.out _).mono ?_
  rintro e w4 ⟨rfl, hx4⟩
  replace o3 := o3.ext hx4
  replace hX := hX.trans hx4
  clear hx4 hft
  have g0 := o3.c0
  go_wp2_with fail
  go_ret3
  exact ⟨rfl, hX⟩
set_option maxRecDepth 100000 in
set_option maxHeartbeats 1000000 in
theorem rfloor_n_z_y (w0 : World) (a c b x y yb x2 y2 L q0 q1 n0 n1 m0 m1 M F : Int) (hz2 : (b == 0) = false) (hz3 : ¬ b = 0) (hbn : b < 0) (HL : (a == 0 && c == -9223372036854775808) = false)
    (hng : RowKit.Hid (∀ W, Calls Try.prog 14 #[.agg #[.int .i64 a, .int .i64 c]] W fun e w' => e = .returned (.agg #[.int .i64 x, .int .i64 y]) ∧ Ext W w')) (eyb : wrap64 (-b) = yb) (hY : y < 0) (hng2 : RowKit.Hid (∀ W, Calls Try.prog 14 #[.agg #[.int .i64 x, .int .i64 y]] W fun e w' => e = .returned (.agg #[.int .i64 x2, .int .i64 y2]) ∧ Ext W w')) (hlg : RowKit.Hid (∀ W, Calls Try.prog 42 #[.agg #[.int .i64 x2, .int .i64 y2], .int .i64 yb] W fun e w' => e = .returned (.tuple #[.int .i64 L, .agg #[.int .i64 q0, .int .i64 q1]]) ∧ Ext W w')) (hn3 : RowKit.Hid (∀ W, Calls Try.prog 14 #[.agg #[.int .i64 q0, .int .i64 q1]] W fun e w' => e = .returned (.agg #[.int .i64 n0, .int .i64 n1]) ∧ Ext W w')) (hL : (L != 0) = false) (eF : wrap64 (-L) = F) (hft : RowKit.Hid (∀ W, Calls Try.prog 45 #[.agg #[.int .i64 n0, .int .i64 n1]] W fun e w' => e = .returned (.bool true) ∧ Ext W w')) (w : World) (h : Ext w0 w) :
    Calls Try.prog 32 #[.agg #[.int .i64 a, .int .i64 c], .int .i64 b] w fun e w' => e = .returned (.tuple #[.int .i64 F, .int .i64 n0, .int .i64 0]) ∧ Ext w0 w' := by
  have db : decide (b < 0) = true := by simp; omega
  have dY : decide (y < 0) = true := by simp; omega
  go_enter Try.func32, Try.ntmps32
  go_wp2_with fail
  have hs0 := h.1.size
  obtain ⟨o0, o1⟩ := own2 w (.int .i64 a) (.int .i64 c) (.int .i64 a) (.int .i64 c)
  have hX := (h.cells #[.int .i64 a, .int .i64 c] 24).cells #[.int .i64 a, .int .i64 c] 24
  clear h
  refine (hng.out _).mono ?_
  rintro e w1 ⟨rfl, w1x⟩
  replace o0 := o0.ext w1x
  replace o1 := o1.ext w1x
  replace hX := hX.trans w1x
  clear w1x hng
  have g0 := o1.c0
  have g1 := o1.c1
  have f0 := o1.f0
  have f1 := o1.f1
  have p0 := o0.c0
  have p1 := o0.c1
  have lt := o1.lt
  go_wp2_with fail
  replace o0 := o0.other (b' := w.heap.size + 1) (by omega) (.int .i64 x) (.int .i64 y)
  replace o1 := o1.set (.int .i64 x) (.int .i64 y)
  replace hX := hX.set2 (n := w.heap.size + 1) (by omega) (.int .i64 x) (.int .i64 y)
  clear g0 g1 f0 f1 lt p0 p1
  refine (hng2.out _).mono ?_
  rintro e w1b ⟨rfl, w1bx⟩
  replace o0 := o0.ext w1bx
  replace o1 := o1.ext w1bx
  replace hX := hX.trans w1bx
  clear w1bx hng2
  have g0 := o1.c0
  have g1 := o1.c1
  have f0 := o1.f0
  have f1 := o1.f1
  have p0 := o0.c0
  have p1 := o0.c1
  have lt := o1.lt
  go_wp2_with fail
  replace o0 := o0.other (b' := w.heap.size + 1) (by omega) (.int .i64 x2) (.int .i64 y2)
  replace o1 := o1.set (.int .i64 x2) (.int .i64 y2)
  replace hX := hX.set2 (n := w.heap.size + 1) (by omega) (.int .i64 x2) (.int .i64 y2)
  clear g0 g1 f0 f1 lt p0 p1
  refine (hlg.out _).mono ?_
  rintro e w2 ⟨rfl, hx2⟩
  replace hX := hX.trans hx2
  clear hx2 hlg o0 o1
  have hs2 := hX.1.size
  go_wp2_with fail
  have o3 := Own.last (X := w2) (x := Value.int .i64 q0) (y := Value.int .i64 q1) (t := 24)
  replace hX := hX.cells #[.int .i64 q0, .int .i64 q1] 24
  refine (hn3.out _).mono ?_
  rintro e w3 ⟨rfl, w3x⟩
  replace o3 := o3.ext w3x
  replace hX := hX.trans w3x
  clear w3x hn3
  have g0 := o3.c0
  have g1 := o3.c1
  have f0 := o3.f0
  have f1 := o3.f1
  have lt := o3.lt
  go_wp2_with fail
  replace o3 := o3.set (.int .i64 n0) (.int .i64 n1)
  replace hX := hX.set2 (n := w2.heap.size) (by omega) (.int .i64 n0) (.int .i64 n1)
  clear g0 g1 f0 f1 lt
  refine (hft.out _).mono ?_
  rintro e w4 ⟨rfl, hx4⟩
  replace o3 := o3.ext hx4
  replace hX := hX.trans hx4
  clear hx4 hft
  have g0 := o3.c0
  go_wp2_with fail
  go_region
  go_wp2
  go_ret3
  exact ⟨rfl, hX.drew⟩
set_option maxRecDepth 100000 in
set_option maxHeartbeats 1000000 in
theorem rfloor_n_z_n (w0 : World) (a c b x y yb x2 y2 L q0 q1 n0 n1 m0 m1 M F : Int) (hz2 : (b == 0) = false) (hz3 : ¬ b = 0) (hbn : b < 0) (HL : (a == 0 && c == -9223372036854775808) = false)
    (hng : RowKit.Hid (∀ W, Calls Try.prog 14 #[.agg #[.int .i64 a, .int .i64 c]] W fun e w' => e = .returned (.agg #[.int .i64 x, .int .i64 y]) ∧ Ext W w')) (eyb : wrap64 (-b) = yb) (hY : y < 0) (hng2 : RowKit.Hid (∀ W, Calls Try.prog 14 #[.agg #[.int .i64 x, .int .i64 y]] W fun e w' => e = .returned (.agg #[.int .i64 x2, .int .i64 y2]) ∧ Ext W w')) (hlg : RowKit.Hid (∀ W, Calls Try.prog 42 #[.agg #[.int .i64 x2, .int .i64 y2], .int .i64 yb] W fun e w' => e = .returned (.tuple #[.int .i64 L, .agg #[.int .i64 q0, .int .i64 q1]]) ∧ Ext W w')) (hn3 : RowKit.Hid (∀ W, Calls Try.prog 14 #[.agg #[.int .i64 q0, .int .i64 q1]] W fun e w' => e = .returned (.agg #[.int .i64 n0, .int .i64 n1]) ∧ Ext W w')) (hL : (L != 0) = false) (eF : wrap64 (-L) = F) (hft : RowKit.Hid (∀ W, Calls Try.prog 45 #[.agg #[.int .i64 n0, .int .i64 n1]] W fun e w' => e = .returned (.bool false) ∧ Ext W w')) (w : World) (h : Ext w0 w) :
    Calls Try.prog 32 #[.agg #[.int .i64 a, .int .i64 c], .int .i64 b] w fun e w' => e = .returned (.tuple #[.int .i64 0, .int .i64 0, .int .i64 (-11)]) ∧ Ext w0 w' := by
  have db : decide (b < 0) = true := by simp; omega
  have dY : decide (y < 0) = true := by simp; omega
  go_enter Try.func32, Try.ntmps32
  go_wp2_with fail
  have hs0 := h.1.size
  obtain ⟨o0, o1⟩ := own2 w (.int .i64 a) (.int .i64 c) (.int .i64 a) (.int .i64 c)
  have hX := (h.cells #[.int .i64 a, .int .i64 c] 24).cells #[.int .i64 a, .int .i64 c] 24
  clear h
  refine (hng.out _).mono ?_
  rintro e w1 ⟨rfl, w1x⟩
  replace o0 := o0.ext w1x
  replace o1 := o1.ext w1x
  replace hX := hX.trans w1x
  clear w1x hng
  have g0 := o1.c0
  have g1 := o1.c1
  have f0 := o1.f0
  have f1 := o1.f1
  have p0 := o0.c0
  have p1 := o0.c1
  have lt := o1.lt
  go_wp2_with fail
  replace o0 := o0.other (b' := w.heap.size + 1) (by omega) (.int .i64 x) (.int .i64 y)
  replace o1 := o1.set (.int .i64 x) (.int .i64 y)
  replace hX := hX.set2 (n := w.heap.size + 1) (by omega) (.int .i64 x) (.int .i64 y)
  clear g0 g1 f0 f1 lt p0 p1
  refine (hng2.out _).mono ?_
  rintro e w1b ⟨rfl, w1bx⟩
  replace o0 := o0.ext w1bx
  replace o1 := o1.ext w1bx
  replace hX := hX.trans w1bx
  clear w1bx hng2
  have g0 := o1.c0
  have g1 := o1.c1
  have f0 := o1.f0
  have f1 := o1.f1
  have p0 := o0.c0
  have p1 := o0.c1
  have lt := o1.lt
  go_wp2_with fail
  replace o0 := o0.other (b' := w.heap.size + 1) (by omega) (.int .i64 x2) (.int .i64 y2)
  replace o1 := o1.set (.int .i64 x2) (.int .i64 y2)
  replace hX := hX.set2 (n := w.heap.size + 1) (by omega) (.int .i64 x2) (.int .i64 y2)
  clear g0 g1 f0 f1 lt p0 p1
  refine (hlg.out _).mono ?_
  rintro e w2 ⟨rfl, hx2⟩
  replace hX := hX.trans hx2
  clear hx2 hlg o0 o1
  have hs2 := hX.1.size
  go_wp2_with fail
  have o3 := Own.last (X := w2) (x := Value.int .i64 q0) (y := Value.int .i64 q1) (t := 24)
  replace hX := hX.cells #[.int .i64 q0, .int .i64 q1] 24
  refine (hn3.out _).mono ?_
  rintro e w3 ⟨rfl, w3x⟩
  replace o3 := o3.ext w3x
  replace hX := hX.trans w3x
  clear w3x hn3
  have g0 := o3.c0
  have g1 := o3.c1
  have f0 := o3.f0
  have f1 := o3.f1
  have lt := o3.lt
  go_wp2_with fail
  replace o3 := o3.set (.int .i64 n0) (.int .i64 n1)
  replace hX := hX.set2 (n := w2.heap.size) (by omega) (.int .i64 n0) (.int .i64 n1)
  clear g0 g1 f0 f1 lt
  refine (hft.out _).mono ?_
  rintro e w4 ⟨rfl, hx4⟩
  replace o3 := o3.ext hx4
  replace hX := hX.trans hx4
  clear hx4 hft
  have g0 := o3.c0
  go_wp2_with fail
  go_ret3
  exact ⟨rfl, hX⟩
set_option maxRecDepth 100000 in
set_option maxHeartbeats 1000000 in
theorem rfloor_n_m_y (w0 : World) (a c b x y yb x2 y2 L q0 q1 n0 n1 m0 m1 M F : Int) (hz2 : (b == 0) = false) (hz3 : ¬ b = 0) (hbn : b < 0) (HL : (a == 0 && c == -9223372036854775808) = false)
    (hng : RowKit.Hid (∀ W, Calls Try.prog 14 #[.agg #[.int .i64 a, .int .i64 c]] W fun e w' => e = .returned (.agg #[.int .i64 x, .int .i64 y]) ∧ Ext W w')) (eyb : wrap64 (-b) = yb) (hY : y < 0) (hng2 : RowKit.Hid (∀ W, Calls Try.prog 14 #[.agg #[.int .i64 x, .int .i64 y]] W fun e w' => e = .returned (.agg #[.int .i64 x2, .int .i64 y2]) ∧ Ext W w')) (hlg : RowKit.Hid (∀ W, Calls Try.prog 42 #[.agg #[.int .i64 x2, .int .i64 y2], .int .i64 yb] W fun e w' => e = .returned (.tuple #[.int .i64 L, .agg #[.int .i64 q0, .int .i64 q1]]) ∧ Ext W w')) (hn3 : RowKit.Hid (∀ W, Calls Try.prog 14 #[.agg #[.int .i64 q0, .int .i64 q1]] W fun e w' => e = .returned (.agg #[.int .i64 n0, .int .i64 n1]) ∧ Ext W w')) (hL : (L != 0) = true) (had : RowKit.Hid (∀ W, Calls Try.prog 12 #[.agg #[.int .i64 n0, .int .i64 n1], .agg #[.int .i64 (-1), .int .i64 (-1)]] W fun e w' => e = .returned (.agg #[.int .i64 m0, .int .i64 m1]) ∧ Ext W w')) (eM : wrap64 (yb - L) = M) (eF : wrap64 (-M) = F) (hft : RowKit.Hid (∀ W, Calls Try.prog 45 #[.agg #[.int .i64 m0, .int .i64 m1]] W fun e w' => e = .returned (.bool true) ∧ Ext W w')) (w : World) (h : Ext w0 w) :
    Calls Try.prog 32 #[.agg #[.int .i64 a, .int .i64 c], .int .i64 b] w fun e w' => e = .returned (.tuple #[.int .i64 F, .int .i64 m0, .int .i64 0]) ∧ Ext w0 w' := by
  have db : decide (b < 0) = true := by simp; omega
  have dY : decide (y < 0) = true := by simp; omega
  go_enter Try.func32, Try.ntmps32
  go_wp2_with fail
  have hs0 := h.1.size
  obtain ⟨o0, o1⟩ := own2 w (.int .i64 a) (.int .i64 c) (.int .i64 a) (.int .i64 c)
  have hX := (h.cells #[.int .i64 a, .int .i64 c] 24).cells #[.int .i64 a, .int .i64 c] 24
  clear h
  refine (hng.out _).mono ?_
  rintro e w1 ⟨rfl, w1x⟩
  replace o0 := o0.ext w1x
  replace o1 := o1.ext w1x
  replace hX := hX.trans w1x
  clear w1x hng
  have g0 := o1.c0
  have g1 := o1.c1
  have f0 := o1.f0
  have f1 := o1.f1
  have p0 := o0.c0
  have p1 := o0.c1
  have lt := o1.lt
  go_wp2_with fail
  replace o0 := o0.other (b' := w.heap.size + 1) (by omega) (.int .i64 x) (.int .i64 y)
  replace o1 := o1.set (.int .i64 x) (.int .i64 y)
  replace hX := hX.set2 (n := w.heap.size + 1) (by omega) (.int .i64 x) (.int .i64 y)
  clear g0 g1 f0 f1 lt p0 p1
  refine (hng2.out _).mono ?_
  rintro e w1b ⟨rfl, w1bx⟩
  replace o0 := o0.ext w1bx
  replace o1 := o1.ext w1bx
  replace hX := hX.trans w1bx
  clear w1bx hng2
  have g0 := o1.c0
  have g1 := o1.c1
  have f0 := o1.f0
  have f1 := o1.f1
  have p0 := o0.c0
  have p1 := o0.c1
  have lt := o1.lt
  go_wp2_with fail
  replace o0 := o0.other (b' := w.heap.size + 1) (by omega) (.int .i64 x2) (.int .i64 y2)
  replace o1 := o1.set (.int .i64 x2) (.int .i64 y2)
  replace hX := hX.set2 (n := w.heap.size + 1) (by omega) (.int .i64 x2) (.int .i64 y2)
  clear g0 g1 f0 f1 lt p0 p1
  refine (hlg.out _).mono ?_
  rintro e w2 ⟨rfl, hx2⟩
  replace hX := hX.trans hx2
  clear hx2 hlg o0 o1
  have hs2 := hX.1.size
  go_wp2_with fail
  have o3 := Own.last (X := w2) (x := Value.int .i64 q0) (y := Value.int .i64 q1) (t := 24)
  replace hX := hX.cells #[.int .i64 q0, .int .i64 q1] 24
  refine (hn3.out _).mono ?_
  rintro e w3 ⟨rfl, w3x⟩
  replace o3 := o3.ext w3x
  replace hX := hX.trans w3x
  clear w3x hn3
  have g0 := o3.c0
  have g1 := o3.c1
  have f0 := o3.f0
  have f1 := o3.f1
  have lt := o3.lt
  go_wp2_with fail
  replace o3 := o3.set (.int .i64 n0) (.int .i64 n1)
  replace hX := hX.set2 (n := w2.heap.size) (by omega) (.int .i64 n0) (.int .i64 n1)
  clear g0 g1 f0 f1 lt
  refine (had.out _).mono ?_
  rintro e w3b ⟨rfl, w3bx⟩
  replace o3 := o3.ext w3bx
  replace hX := hX.trans w3bx
  clear w3bx had
  have g0 := o3.c0
  have g1 := o3.c1
  have f0 := o3.f0
  have f1 := o3.f1
  have lt := o3.lt
  go_wp2_with fail
  replace o3 := o3.set (.int .i64 m0) (.int .i64 m1)
  replace hX := hX.set2 (n := w2.heap.size) (by omega) (.int .i64 m0) (.int .i64 m1)
  clear g0 g1 f0 f1 lt
  refine (hft.out _).mono ?_
  rintro e w4 ⟨rfl, hx4⟩
  replace o3 := o3.ext hx4
  replace hX := hX.trans hx4
  clear hx4 hft
  have g0 := o3.c0
  go_wp2_with fail
  go_region
  go_wp2
  go_ret3
  exact ⟨rfl, hX.drew⟩
set_option maxRecDepth 100000 in
set_option maxHeartbeats 1000000 in
theorem rfloor_n_m_n (w0 : World) (a c b x y yb x2 y2 L q0 q1 n0 n1 m0 m1 M F : Int) (hz2 : (b == 0) = false) (hz3 : ¬ b = 0) (hbn : b < 0) (HL : (a == 0 && c == -9223372036854775808) = false)
    (hng : RowKit.Hid (∀ W, Calls Try.prog 14 #[.agg #[.int .i64 a, .int .i64 c]] W fun e w' => e = .returned (.agg #[.int .i64 x, .int .i64 y]) ∧ Ext W w')) (eyb : wrap64 (-b) = yb) (hY : y < 0) (hng2 : RowKit.Hid (∀ W, Calls Try.prog 14 #[.agg #[.int .i64 x, .int .i64 y]] W fun e w' => e = .returned (.agg #[.int .i64 x2, .int .i64 y2]) ∧ Ext W w')) (hlg : RowKit.Hid (∀ W, Calls Try.prog 42 #[.agg #[.int .i64 x2, .int .i64 y2], .int .i64 yb] W fun e w' => e = .returned (.tuple #[.int .i64 L, .agg #[.int .i64 q0, .int .i64 q1]]) ∧ Ext W w')) (hn3 : RowKit.Hid (∀ W, Calls Try.prog 14 #[.agg #[.int .i64 q0, .int .i64 q1]] W fun e w' => e = .returned (.agg #[.int .i64 n0, .int .i64 n1]) ∧ Ext W w')) (hL : (L != 0) = true) (had : RowKit.Hid (∀ W, Calls Try.prog 12 #[.agg #[.int .i64 n0, .int .i64 n1], .agg #[.int .i64 (-1), .int .i64 (-1)]] W fun e w' => e = .returned (.agg #[.int .i64 m0, .int .i64 m1]) ∧ Ext W w')) (eM : wrap64 (yb - L) = M) (eF : wrap64 (-M) = F) (hft : RowKit.Hid (∀ W, Calls Try.prog 45 #[.agg #[.int .i64 m0, .int .i64 m1]] W fun e w' => e = .returned (.bool false) ∧ Ext W w')) (w : World) (h : Ext w0 w) :
    Calls Try.prog 32 #[.agg #[.int .i64 a, .int .i64 c], .int .i64 b] w fun e w' => e = .returned (.tuple #[.int .i64 0, .int .i64 0, .int .i64 (-11)]) ∧ Ext w0 w' := by
  have db : decide (b < 0) = true := by simp; omega
  have dY : decide (y < 0) = true := by simp; omega
  go_enter Try.func32, Try.ntmps32
  go_wp2_with fail
  have hs0 := h.1.size
  obtain ⟨o0, o1⟩ := own2 w (.int .i64 a) (.int .i64 c) (.int .i64 a) (.int .i64 c)
  have hX := (h.cells #[.int .i64 a, .int .i64 c] 24).cells #[.int .i64 a, .int .i64 c] 24
  clear h
  refine (hng.out _).mono ?_
  rintro e w1 ⟨rfl, w1x⟩
  replace o0 := o0.ext w1x
  replace o1 := o1.ext w1x
  replace hX := hX.trans w1x
  clear w1x hng
  have g0 := o1.c0
  have g1 := o1.c1
  have f0 := o1.f0
  have f1 := o1.f1
  have p0 := o0.c0
  have p1 := o0.c1
  have lt := o1.lt
  go_wp2_with fail
  replace o0 := o0.other (b' := w.heap.size + 1) (by omega) (.int .i64 x) (.int .i64 y)
  replace o1 := o1.set (.int .i64 x) (.int .i64 y)
  replace hX := hX.set2 (n := w.heap.size + 1) (by omega) (.int .i64 x) (.int .i64 y)
  clear g0 g1 f0 f1 lt p0 p1
  refine (hng2.out _).mono ?_
  rintro e w1b ⟨rfl, w1bx⟩
  replace o0 := o0.ext w1bx
  replace o1 := o1.ext w1bx
  replace hX := hX.trans w1bx
  clear w1bx hng2
  have g0 := o1.c0
  have g1 := o1.c1
  have f0 := o1.f0
  have f1 := o1.f1
  have p0 := o0.c0
  have p1 := o0.c1
  have lt := o1.lt
  go_wp2_with fail
  replace o0 := o0.other (b' := w.heap.size + 1) (by omega) (.int .i64 x2) (.int .i64 y2)
  replace o1 := o1.set (.int .i64 x2) (.int .i64 y2)
  replace hX := hX.set2 (n := w.heap.size + 1) (by omega) (.int .i64 x2) (.int .i64 y2)
  clear g0 g1 f0 f1 lt p0 p1
  refine (hlg.out _).mono ?_
  rintro e w2 ⟨rfl, hx2⟩
  replace hX := hX.trans hx2
  clear hx2 hlg o0 o1
  have hs2 := hX.1.size
  go_wp2_with fail
  have o3 := Own.last (X := w2) (x := Value.int .i64 q0) (y := Value.int .i64 q1) (t := 24)
  replace hX := hX.cells #[.int .i64 q0, .int .i64 q1] 24
  refine (hn3.out _).mono ?_
  rintro e w3 ⟨rfl, w3x⟩
  replace o3 := o3.ext w3x
  replace hX := hX.trans w3x
  clear w3x hn3
  have g0 := o3.c0
  have g1 := o3.c1
  have f0 := o3.f0
  have f1 := o3.f1
  have lt := o3.lt
  go_wp2_with fail
  replace o3 := o3.set (.int .i64 n0) (.int .i64 n1)
  replace hX := hX.set2 (n := w2.heap.size) (by omega) (.int .i64 n0) (.int .i64 n1)
  clear g0 g1 f0 f1 lt
  refine (had.out _).mono ?_
  rintro e w3b ⟨rfl, w3bx⟩
  replace o3 := o3.ext w3bx
  replace hX := hX.trans w3bx
  clear w3bx had
  have g0 := o3.c0
  have g1 := o3.c1
  have f0 := o3.f0
  have f1 := o3.f1
  have lt := o3.lt
  go_wp2_with fail
  replace o3 := o3.set (.int .i64 m0) (.int .i64 m1)
  replace hX := hX.set2 (n := w2.heap.size) (by omega) (.int .i64 m0) (.int .i64 m1)
  clear g0 g1 f0 f1 lt
  refine (hft.out _).mono ?_
  rintro e w4 ⟨rfl, hx4⟩
  replace o3 := o3.ext hx4
  replace hX := hX.trans hx4
  clear hx4 hft
  have g0 := o3.c0
  go_wp2_with fail
  go_ret3
  exact ⟨rfl, hX⟩
end Go.Proofs.Ytfehpfcpeiopiaa
