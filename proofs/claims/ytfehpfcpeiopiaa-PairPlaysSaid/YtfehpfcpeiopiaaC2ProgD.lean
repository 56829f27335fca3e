/- Layer 2 (package pair): the division of signed numbers that rounds towards 0. Condition: cells are integers of 64 bits, the divisor is not 0. -/
import Derived.Test.YtfehpfcpeiopiaaC2ProgC
namespace Go.Proofs.Ytfehpfcpeiopiaa
open Go.RowKit
set_option linter.unusedVariables false

theorem neg_same (n : Int) : lo (-V (lo n) (hi n)) = lo (-n) ∧ hi (-V (lo n) (hi n)) = hi (-n) := by
  obtain ⟨k, hk⟩ := V_mk n
  exact same (-k) (by rw [hk]; omega)
theorem neg_mk (n : Int) (W : World) : Calls Try.prog 13 #[.agg #[.int .i64 (lo n), .int .i64 (hi n)]] W fun e w' => e = .returned (.agg #[.int .i64 (lo (-n)), .int .i64 (hi (-n))]) ∧ Ext W w' := by
  have h := neg_calls W (lo n) (hi n) (lo_i64 n) (hi_i64 n) W (Ext.refl W)
  rw [(neg_same n).1, (neg_same n).2] at h
  exact h
theorem own2 (w : World) (a b c d : Value) : Own ((w.alloc (.cells #[a, b] 24)).alloc (.cells #[c, d] 24)) w.heap.size a b ∧ Own ((w.alloc (.cells #[a, b] 24)).alloc (.cells #[c, d] 24)) (w.heap.size + 1) c d := by
  refine ⟨Own.last.alloc _ _, ?_⟩
  have h := Own.last (X := w.alloc (.cells #[a, b] 24)) (x := c) (y := d) (t := 24)
  rwa [size_alloc] at h
theorem own3 (w : World) (a b c d e f : Value) : Own (((w.alloc (.cells #[a, b] 24)).alloc (.cells #[c, d] 24)).alloc (.cells #[e, f] 24)) w.heap.size a b ∧ Own (((w.alloc (.cells #[a, b] 24)).alloc (.cells #[c, d] 24)).alloc (.cells #[e, f] 24)) (w.heap.size + 1) c d
    ∧ Own (((w.alloc (.cells #[a, b] 24)).alloc (.cells #[c, d] 24)).alloc (.cells #[e, f] 24)) (w.heap.size + 1 + 1) e f := by
  refine ⟨(own2 w a b c d).1.alloc _ _, (own2 w a b c d).2.alloc _ _, ?_⟩
  have h := Own.last (X := (w.alloc (.cells #[a, b] 24)).alloc (.cells #[c, d] 24)) (x := e) (y := f) (t := 24)
  rwa [size_alloc, size_alloc] at h

set_option maxRecDepth 100000 in
set_option maxHeartbeats 1000000 in
theorem truncate_pp (w0 : World) (a c b : Int) (ha : I64 a) (hc : I64 c) (hb : I64 b) (P B : Nat) (hv : V a c = (P : Int)) (hB : b = (B : Int)) (hp : 0 < B) (hn : 0 ≤ c) (w : World) (h : Ext w0 w) :
    Calls Try.prog 43 #[.agg #[.int .i64 a, .int .i64 c], .int .i64 b] w fun e w' => e = .returned (.tuple #[.int .i64 (((P % B : Nat) : Int)), .agg #[.int .i64 (lo (((P / B : Nat) : Int))), .int .i64 (hi (((P / B : Nat) : Int)))]]) ∧ Ext w0 w' := by
  have hb2 : 0 ≤ b := by omega
  have dc : decide (c < 0) = false := by simp; omega
  have db : decide (b < 0) = false := by simp; omega
  have hbl := i64_bd hb
  have hvb := V_bd (l := a) hc
  have hR : P % B < B := Nat.mod_lt _ hp
  have er : wrap64 ((P % B : Nat) : Int) = ((P % B : Nat) : Int) := wrap_id (by unfold I64; omega)
  have en : wrap64 (-((P % B : Nat) : Int)) = -((P % B : Nat) : Int) := wrap_id (by unfold I64; omega)
  have eb : IntKind.u64.wrap b = (B : Int) := by rw [u64_wrap]; omega
  have hW : W a c = P := by unfold W; unfold V at hv; have : U c = c := by unfold U; have := i64_bd hc; omega
                            rw [this]; exact hv
  have hdv := Lib.hid (fun w => divide_calls w a c P B hW hp (by omega) w (Ext.refl w))
  obtain ⟨R, hR'⟩ : ∃ r, r = P % B := ⟨_, rfl⟩
  rw [← hR'] at er en hdv ⊢
  obtain ⟨q0, hq0⟩ : ∃ r, r = lo ((P / B : Nat) : Int) := ⟨_, rfl⟩
  obtain ⟨q1, hq1⟩ : ∃ r, r = hi ((P / B : Nat) : Int) := ⟨_, rfl⟩
  rw [← hq0, ← hq1] at hdv ⊢
  clear hR hR' hq0 hq1 hvb hbl hB hv hp hW ha hc hb
  go_enter Try.func43, Try.ntmps43
  go_wp2_with fail
  have hs0 := h.1.size
  obtain ⟨o0, o1, o2⟩ := own3 w (.int .i64 a) (.int .i64 c) (.int .i64 0) (.int .i64 0) (.int .i64 a) (.int .i64 c)
  have hX := ((h.cells #[.int .i64 a, .int .i64 c] 24).cells #[.int .i64 0, .int .i64 0] 24).cells #[.int .i64 a, .int .i64 c] 24
  clear h
  refine (hdv.out _).mono ?_
  rintro e w2 ⟨rfl, hx2⟩
  replace o0 := o0.ext hx2
  replace o1 := o1.ext hx2
  replace hX := hX.trans hx2
  clear hx2 hdv o2
  have g0 := o1.c0
  have g1 := o1.c1
  have f0 := o1.f0
  have f1 := o1.f1
  have lt := o1.lt
  have k1 := o0.c1
  go_wp2_with fail
  replace o1 := o1.set (.int .i64 q0) (.int .i64 q1)
  replace hX := hX.set2 (n := w.heap.size + 1) (by omega) (.int .i64 q0) (.int .i64 q1)
  go_region
  go_wp2
  refine bodyPost_ret (v := .tuple #[.int .i64 ((R : Int)), .agg #[.int .i64 q0, .int .i64 q1]]) ?_ rfl ⟨rfl, (hX.set2 (n := w.heap.size + 1) (by omega) _ _).drew⟩
  have o9 := o1.set (.int .i64 q0) (.int .i64 q1)
  have k0 := o9.c0
  have k1 := o9.c1
  simp [results, Try.results43, go_sem, k0, k1, er]
set_option maxRecDepth 100000 in
set_option maxHeartbeats 1000000 in
theorem truncate_pn (w0 : World) (a c b : Int) (ha : I64 a) (hc : I64 c) (hb : I64 b) (P B : Nat) (hv : V a c = (P : Int)) (hB : b = -(B : Int)) (hp : 0 < B) (hn : 0 ≤ c) (w : World) (h : Ext w0 w) :
    Calls Try.prog 43 #[.agg #[.int .i64 a, .int .i64 c], .int .i64 b] w fun e w' => e = .returned (.tuple #[.int .i64 (((P % B : Nat) : Int)), .agg #[.int .i64 (lo (-((P / B : Nat) : Int))), .int .i64 (hi (-((P / B : Nat) : Int)))]]) ∧ Ext w0 w' := by
  have hb2 : b < 0 := by omega
  have dc : decide (c < 0) = false := by simp; omega
  have db : decide (b < 0) = true := by simp; omega
  have hbl := i64_bd hb
  have hvb := V_bd (l := a) hc
  have hR : P % B < B := Nat.mod_lt _ hp
  have er : wrap64 ((P % B : Nat) : Int) = ((P % B : Nat) : Int) := wrap_id (by unfold I64; omega)
  have en : wrap64 (-((P % B : Nat) : Int)) = -((P % B : Nat) : Int) := wrap_id (by unfold I64; omega)
  have eb : IntKind.u64.wrap (wrap64 (-b)) = (B : Int) := by rw [u64_wrap]; unfold wrap64; omega
  have hW : W a c = P := by unfold W; unfold V at hv; have : U c = c := by unfold U; have := i64_bd hc; omega
                            rw [this]; exact hv
  have hdv := Lib.hid (fun w => divide_calls w a c P B hW hp (by omega) w (Ext.refl w))
  have hn2 := Lib.hid (fun w => neg_mk ((P / B : Nat) : Int) w)
  obtain ⟨R, hR'⟩ : ∃ r, r = P % B := ⟨_, rfl⟩
  rw [← hR'] at er en hdv ⊢
  obtain ⟨q0, hq0⟩ : ∃ r, r = lo ((P / B : Nat) : Int) := ⟨_, rfl⟩
  obtain ⟨q1, hq1⟩ : ∃ r, r = hi ((P / B : Nat) : Int) := ⟨_, rfl⟩
  rw [← hq0, ← hq1] at hdv hn2
  obtain ⟨p0, hp0⟩ : ∃ r, r = lo (-((P / B : Nat) : Int)) := ⟨_, rfl⟩
  obtain ⟨p1, hp1⟩ : ∃ r, r = hi (-((P / B : Nat) : Int)) := ⟨_, rfl⟩
  rw [← hp0, ← hp1] at hn2 ⊢
  clear hp0 hp1
  clear hR hR' hq0 hq1 hvb hbl hB hv hp hW ha hc hb
  go_enter Try.func43, Try.ntmps43
  go_wp2_with fail
  have hs0 := h.1.size
  obtain ⟨o0, o1, o2⟩ := own3 w (.int .i64 a) (.int .i64 c) (.int .i64 0) (.int .i64 0) (.int .i64 a) (.int .i64 c)
  have hX := ((h.cells #[.int .i64 a, .int .i64 c] 24).cells #[.int .i64 0, .int .i64 0] 24).cells #[.int .i64 a, .int .i64 c] 24
  clear h
  refine (hdv.out _).mono ?_
  rintro e w2 ⟨rfl, hx2⟩
  replace o0 := o0.ext hx2
  replace o1 := o1.ext hx2
  replace hX := hX.trans hx2
  clear hx2 hdv o2
  have g0 := o1.c0
  have g1 := o1.c1
  have f0 := o1.f0
  have f1 := o1.f1
  have lt := o1.lt
  have k1 := o0.c1
  go_wp2_with fail
  refine (hn2.out _).mono ?_
  rintro e w3 ⟨rfl, hx3⟩
  replace o0 := (o0.other (b' := w.heap.size + 1) (by omega) (.int .i64 q0) (.int .i64 q1)).ext hx3
  replace o1 := (o1.set (.int .i64 q0) (.int .i64 q1)).ext hx3
  replace hX := (hX.set2 (n := w.heap.size + 1) (by omega) (.int .i64 q0) (.int .i64 q1)).trans hx3
  clear hx3 hn2 g0 g1 f0 f1 lt k1
  have g0 := o1.c0
  have g1 := o1.c1
  have f0 := o1.f0
  have f1 := o1.f1
  have lt := o1.lt
  go_wp2_with fail
  replace o1 := o1.set (.int .i64 p0) (.int .i64 p1)
  replace hX := hX.set2 (n := w.heap.size + 1) (by omega) (.int .i64 p0) (.int .i64 p1)
  go_region
  go_wp2
  refine bodyPost_ret (v := .tuple #[.int .i64 ((R : Int)), .agg #[.int .i64 p0, .int .i64 p1]]) ?_ rfl ⟨rfl, (hX.set2 (n := w.heap.size + 1) (by omega) _ _).drew⟩
  have o9 := o1.set (.int .i64 p0) (.int .i64 p1)
  have k0 := o9.c0
  have k1 := o9.c1
  simp [results, Try.results43, go_sem, k0, k1]
set_option maxRecDepth 100000 in
set_option maxHeartbeats 1000000 in
theorem truncate_np (w0 : World) (a c b : Int) (ha : I64 a) (hc : I64 c) (hb : I64 b) (P B : Nat) (hv : V a c = -(P : Int)) (hB : b = (B : Int)) (hp : 0 < B) (hn : c < 0) (w : World) (h : Ext w0 w) :
    Calls Try.prog 43 #[.agg #[.int .i64 a, .int .i64 c], .int .i64 b] w fun e w' => e = .returned (.tuple #[.int .i64 (-((P % B : Nat) : Int)), .agg #[.int .i64 (lo (-((P / B : Nat) : Int))), .int .i64 (hi (-((P / B : Nat) : Int)))]]) ∧ Ext w0 w' := by
  have hb2 : 0 ≤ b := by omega
  have dc : decide (c < 0) = true := by simp; omega
  have db : decide (b < 0) = false := by simp; omega
  have hbl := i64_bd hb
  have hvb := V_bd (l := a) hc
  have hR : P % B < B := Nat.mod_lt _ hp
  have er : wrap64 ((P % B : Nat) : Int) = ((P % B : Nat) : Int) := wrap_id (by unfold I64; omega)
  have en : wrap64 (-((P % B : Nat) : Int)) = -((P % B : Nat) : Int) := wrap_id (by unfold I64; omega)
  have eb : IntKind.u64.wrap b = (B : Int) := by rw [u64_wrap]; omega
  have hng := Lib.hid (fun w => neg_calls w a c ha hc w (Ext.refl w))
  rw [hv, Int.neg_neg] at hng
  have hW : W (lo (P : Int)) (hi (P : Int)) = P := W_mk _ (by omega) (by omega)
  obtain ⟨x, hx⟩ : ∃ x, x = lo (P : Int) := ⟨_, rfl⟩
  obtain ⟨y, hy⟩ : ∃ x, x = hi (P : Int) := ⟨_, rfl⟩
  rw [← hx, ← hy] at hng hW
  have hdv := Lib.hid (fun w => divide_calls w x y P B hW hp (by omega) w (Ext.refl w))
  have hn2 := Lib.hid (fun w => neg_mk ((P / B : Nat) : Int) w)
  obtain ⟨R, hR'⟩ : ∃ r, r = P % B := ⟨_, rfl⟩
  rw [← hR'] at er en hdv ⊢
  obtain ⟨q0, hq0⟩ : ∃ r, r = lo ((P / B : Nat) : Int) := ⟨_, rfl⟩
  obtain ⟨q1, hq1⟩ : ∃ r, r = hi ((P / B : Nat) : Int) := ⟨_, rfl⟩
  rw [← hq0, ← hq1] at hdv hn2
  obtain ⟨p0, hp0⟩ : ∃ r, r = lo (-((P / B : Nat) : Int)) := ⟨_, rfl⟩
  obtain ⟨p1, hp1⟩ : ∃ r, r = hi (-((P / B : Nat) : Int)) := ⟨_, rfl⟩
  rw [← hp0, ← hp1] at hn2 ⊢
  clear hp0 hp1
  clear hR hR' hq0 hq1 hvb hbl hB hv hp hW hx hy ha hc hb
  go_enter Try.func43, Try.ntmps43
  go_wp2_with fail
  have hs0 := h.1.size
  obtain ⟨o0, o1, o2⟩ := own3 w (.int .i64 a) (.int .i64 c) (.int .i64 0) (.int .i64 0) (.int .i64 a) (.int .i64 c)
  have hX := ((h.cells #[.int .i64 a, .int .i64 c] 24).cells #[.int .i64 0, .int .i64 0] 24).cells #[.int .i64 a, .int .i64 c] 24
  clear h
  refine (hng.out _).mono ?_
  rintro e w1 ⟨rfl, hx1⟩
  replace o0 := o0.ext hx1
  replace o1 := o1.ext hx1
  replace o2 := o2.ext hx1
  replace hX := hX.trans hx1
  clear hx1 hng
  have g0 := o2.c0
  have g1 := o2.c1
  have f0 := o2.f0
  have f1 := o2.f1
  have lt := o2.lt
  go_wp2_with fail
  replace o0 := o0.other (b' := w.heap.size + 1 + 1) (by omega) (.int .i64 x) (.int .i64 y)
  replace o1 := o1.other (b' := w.heap.size + 1 + 1) (by omega) (.int .i64 x) (.int .i64 y)
  replace o2 := o2.set (.int .i64 x) (.int .i64 y)
  replace hX := hX.set2 (n := w.heap.size + 1 + 1) (by omega) (.int .i64 x) (.int .i64 y)
  clear g0 g1 f0 f1 lt
  refine (hdv.out _).mono ?_
  rintro e w2 ⟨rfl, hx2⟩
  replace o0 := o0.ext hx2
  replace o1 := o1.ext hx2
  replace hX := hX.trans hx2
  clear hx2 hdv o2
  have g0 := o1.c0
  have g1 := o1.c1
  have f0 := o1.f0
  have f1 := o1.f1
  have lt := o1.lt
  have k1 := o0.c1
  go_wp2_with fail
  refine (hn2.out _).mono ?_
  rintro e w3 ⟨rfl, hx3⟩
  replace o0 := (o0.other (b' := w.heap.size + 1) (by omega) (.int .i64 q0) (.int .i64 q1)).ext hx3
  replace o1 := (o1.set (.int .i64 q0) (.int .i64 q1)).ext hx3
  replace hX := (hX.set2 (n := w.heap.size + 1) (by omega) (.int .i64 q0) (.int .i64 q1)).trans hx3
  clear hx3 hn2 g0 g1 f0 f1 lt k1
  have g0 := o1.c0
  have g1 := o1.c1
  have f0 := o1.f0
  have f1 := o1.f1
  have lt := o1.lt
  go_wp2_with fail
  replace o1 := o1.set (.int .i64 p0) (.int .i64 p1)
  replace hX := hX.set2 (n := w.heap.size + 1) (by omega) (.int .i64 p0) (.int .i64 p1)
  go_region
  go_wp2
  refine bodyPost_ret (v := .tuple #[.int .i64 (-(R : Int)), .agg #[.int .i64 p0, .int .i64 p1]]) ?_ rfl ⟨rfl, (hX.set2 (n := w.heap.size + 1) (by omega) _ _).drew⟩
  have o9 := o1.set (.int .i64 p0) (.int .i64 p1)
  have k0 := o9.c0
  have k1 := o9.c1
  simp [results, Try.results43, go_sem, k0, k1]
set_option maxRecDepth 100000 in
set_option maxHeartbeats 1000000 in
theorem truncate_nn (w0 : World) (a c b : Int) (ha : I64 a) (hc : I64 c) (hb : I64 b) (P B : Nat) (hv : V a c = -(P : Int)) (hB : b = -(B : Int)) (hp : 0 < B) (hn : c < 0) (w : World) (h : Ext w0 w) :
    Calls Try.prog 43 #[.agg #[.int .i64 a, .int .i64 c], .int .i64 b] w fun e w' => e = .returned (.tuple #[.int .i64 (-((P % B : Nat) : Int)), .agg #[.int .i64 (lo (((P / B : Nat) : Int))), .int .i64 (hi (((P / B : Nat) : Int)))]]) ∧ Ext w0 w' := by
  have hb2 : b < 0 := by omega
  have dc : decide (c < 0) = true := by simp; omega
  have db : decide (b < 0) = true := by simp; omega
  have hbl := i64_bd hb
  have hvb := V_bd (l := a) hc
  have hR : P % B < B := Nat.mod_lt _ hp
  have er : wrap64 ((P % B : Nat) : Int) = ((P % B : Nat) : Int) := wrap_id (by unfold I64; omega)
  have en : wrap64 (-((P % B : Nat) : Int)) = -((P % B : Nat) : Int) := wrap_id (by unfold I64; omega)
  have eb : IntKind.u64.wrap (wrap64 (-b)) = (B : Int) := by rw [u64_wrap]; unfold wrap64; omega
  have hng := Lib.hid (fun w => neg_calls w a c ha hc w (Ext.refl w))
  rw [hv, Int.neg_neg] at hng
  have hW : W (lo (P : Int)) (hi (P : Int)) = P := W_mk _ (by omega) (by omega)
  obtain ⟨x, hx⟩ : ∃ x, x = lo (P : Int) := ⟨_, rfl⟩
  obtain ⟨y, hy⟩ : ∃ x, x = hi (P : Int) := ⟨_, rfl⟩
  rw [← hx, ← hy] at hng hW
  have hdv := Lib.hid (fun w => divide_calls w x y P B hW hp (by omega) w (Ext.refl w))
  obtain ⟨R, hR'⟩ : ∃ r, r = P % B := ⟨_, rfl⟩
  rw [← hR'] at er en hdv ⊢
  obtain ⟨q0, hq0⟩ : ∃ r, r = lo ((P / B : Nat) : Int) := ⟨_, rfl⟩
  obtain ⟨q1, hq1⟩ : ∃ r, r = hi ((P / B : Nat) : Int) := ⟨_, rfl⟩
  rw [← hq0, ← hq1] at hdv ⊢
  clear hR hR' hq0 hq1 hvb hbl hB hv hp hW hx hy ha hc hb
  go_enter Try.func43, Try.ntmps43
  go_wp2_with fail
  have hs0 := h.1.size
  obtain ⟨o0, o1, o2⟩ := own3 w (.int .i64 a) (.int .i64 c) (.int .i64 0) (.int .i64 0) (.int .i64 a) (.int .i64 c)
  have hX := ((h.cells #[.int .i64 a, .int .i64 c] 24).cells #[.int .i64 0, .int .i64 0] 24).cells #[.int .i64 a, .int .i64 c] 24
  clear h
  refine (hng.out _).mono ?_
  rintro e w1 ⟨rfl, hx1⟩
  replace o0 := o0.ext hx1
  replace o1 := o1.ext hx1
  replace o2 := o2.ext hx1
  replace hX := hX.trans hx1
  clear hx1 hng
  have g0 := o2.c0
  have g1 := o2.c1
  have f0 := o2.f0
  have f1 := o2.f1
  have lt := o2.lt
  go_wp2_with fail
  replace o0 := o0.other (b' := w.heap.size + 1 + 1) (by omega) (.int .i64 x) (.int .i64 y)
  replace o1 := o1.other (b' := w.heap.size + 1 + 1) (by omega) (.int .i64 x) (.int .i64 y)
  replace o2 := o2.set (.int .i64 x) (.int .i64 y)
  replace hX := hX.set2 (n := w.heap.size + 1 + 1) (by omega) (.int .i64 x) (.int .i64 y)
  clear g0 g1 f0 f1 lt
  refine (hdv.out _).mono ?_
  rintro e w2 ⟨rfl, hx2⟩
  replace o0 := o0.ext hx2
  replace o1 := o1.ext hx2
  replace hX := hX.trans hx2
  clear hx2 hdv o2
  have g0 := o1.c0
  have g1 := o1.c1
  have f0 := o1.f0
  have f1 := o1.f1
  have lt := o1.lt
  have k1 := o0.c1
  go_wp2_with fail
  replace o1 := o1.set (.int .i64 q0) (.int .i64 q1)
  replace hX := hX.set2 (n := w.heap.size + 1) (by omega) (.int .i64 q0) (.int .i64 q1)
  go_region
  go_wp2
  refine bodyPost_ret (v := .tuple #[.int .i64 (-(R : Int)), .agg #[.int .i64 q0, .int .i64 q1]]) ?_ rfl ⟨rfl, (hX.set2 (n := w.heap.size + 1) (by omega) _ _).drew⟩
  have o9 := o1.set (.int .i64 q0) (.int .i64 q1)
  have k0 := o9.c0
  have k1 := o9.c1
  simp [results, Try.results43, go_sem, k0, k1, en]

theorem truncate_calls (w0 : World) (a c b : Int) (ha : I64 a) (hc : I64 c) (hb : I64 b) (hz : b ≠ 0) (w : World) (h : Ext w0 w) :
    Calls Try.prog 43 #[.agg #[.int .i64 a, .int .i64 c], .int .i64 b] w fun e w' => e = .returned (.tuple #[.int .i64 ((V a c).tmod b), .agg #[.int .i64 (lo ((V a c).tdiv b)), .int .i64 (hi ((V a c).tdiv b))]]) ∧ Ext w0 w' := by
  have hs := V_neg a c ha hc
  by_cases hn : c < 0
  · obtain ⟨P, hP⟩ := Int.eq_ofNat_of_zero_le (show 0 ≤ -V a c by omega)
    have hv : V a c = -(P : Int) := by omega
    by_cases hbn : b < 0
    · obtain ⟨B, hB⟩ := Int.eq_ofNat_of_zero_le (show 0 ≤ -b by omega)
      have hb2 : b = -(B : Int) := by omega
      have e1 : (V a c).tmod b = -((P % B : Nat) : Int) := by rw [hv, hb2, Int.neg_tmod, Int.tmod_neg]; rfl
      have e2 : (V a c).tdiv b = ((P / B : Nat) : Int) := by rw [hv, hb2, Int.neg_tdiv, Int.tdiv_neg, Int.neg_neg]; rfl
      rw [e1, e2]
      exact truncate_nn w0 a c b ha hc hb P B hv hb2 (by omega) hn w h
    · obtain ⟨B, hB⟩ := Int.eq_ofNat_of_zero_le (show 0 ≤ b by omega)
      have e1 : (V a c).tmod b = -((P % B : Nat) : Int) := by rw [hv, hB, Int.neg_tmod]; rfl
      have e2 : (V a c).tdiv b = -((P / B : Nat) : Int) := by rw [hv, hB, Int.neg_tdiv]; rfl
      rw [e1, e2]
      exact truncate_np w0 a c b ha hc hb P B hv hB (by omega) hn w h
  · obtain ⟨P, hP⟩ := Int.eq_ofNat_of_zero_le (show 0 ≤ V a c by omega)
    by_cases hbn : b < 0
    · obtain ⟨B, hB⟩ := Int.eq_ofNat_of_zero_le (show 0 ≤ -b by omega)
      have hb2 : b = -(B : Int) := by omega
      have e1 : (V a c).tmod b = ((P % B : Nat) : Int) := by rw [hP, hb2, Int.tmod_neg]; rfl
      have e2 : (V a c).tdiv b = -((P / B : Nat) : Int) := by rw [hP, hb2, Int.tdiv_neg]; rfl
      rw [e1, e2]
      exact truncate_pn w0 a c b ha hc hb P B hP hb2 (by omega) (by omega) w h
    · obtain ⟨B, hB⟩ := Int.eq_ofNat_of_zero_le (show 0 ≤ b by omega)
      have e1 : (V a c).tmod b = ((P % B : Nat) : Int) := by rw [hP, hB]; rfl
      have e2 : (V a c).tdiv b = ((P / B : Nat) : Int) := by rw [hP, hB]; rfl
      rw [e1, e2]
      exact truncate_pp w0 a c b ha hc hb P B hP hB (by omega) (by omega) w h
end Go.Proofs.Ytfehpfcpeiopiaa
