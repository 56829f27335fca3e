/- Layer 5: an act done to both memories, kind by kind: the answers are the same. Conditions: two memories of the same bytes; numbers are of their kinds. -/
import Derived.Test.YtahnbllmgalgpaaM5W
import Derived.Deep.RegionHeld3
import Derived.Deep.QuietTactic
import Derived.BigQuiet
namespace Go.Proofs.Ytahnbllmgalgpaa
open Go.RowKit Go.ChangeShapes
set_option linter.unusedVariables false

theorem byteI (v : Int) : ∃ c : UInt8, v % 256 = (c.toNat : Int) := ⟨UInt8.ofNat (v % 256).toNat, by
  have h : (v % 256).toNat < 256 := by omega
  rw [UInt8.toNat_ofNat', Nat.mod_eq_of_lt h]
  omega⟩
theorem ret_true {b : Bool} (h : b = true) : Ending.returned (.bool b) = .returned (.bool true) := by rw [h]
set_option maxHeartbeats 2000000 in
set_option maxRecDepth 100000 in
theorem does_get {w : World} {p q p2 q2 : Nat} {B : List UInt8} {h : Int} (t : Two w p q p2 q2 B h) (k x y z : Int) (hk : 0 ≤ k ∧ k ≤ 255) (hk2 : k % 13 = 0) (hx : I64 x) (hy : I64 y) (hz : I64 z) :
    Calls Try.prog 14 #[Pt p, Pt p2, .agg #[.int .u8 k, .int .i64 x, .int .i64 y, .int .i64 z]] w (Did w p q p2 q2) := by
  obtain ⟨v, u, k1, k2⟩ := both_get B h x hx
  have K1 := Lib.hid (fun W hm => k1 W p q hm)
  have K2 := Lib.hid (fun W hm => k2 W p2 q2 hm)
  clear k1 k2
  have T0 := Lib.hid t
  have act0 := Act4.last w k x y z 35
  have hX1 := (Ext.refl w).cells #[.int .u8 k, .int .i64 x, .int .i64 y, .int .i64 z] 35
  have m1 := t.m1.ext hX1
  have m2 := t.m2.ext hX1
  have HN := Lib.hid (And.intro (And.intro (Nat.ne_of_gt t.m1.lp) (Nat.ne_of_gt t.m1.lq)) (And.intro (Nat.ne_of_gt t.m2.lp) (Nat.ne_of_gt t.m2.lq)))
  have HM := Lib.hid (And.intro m1 m2)
  have HX1 := Lib.hid hX1
  clear t m1 m2 hX1
  go_enter Try.func14, Try.ntmps14
  go_wp2_with fail
  refine (K1.out _ HM.out.1).mono ?_
  rintro e w1 ⟨rfl, rfl⟩
  go_wp2_with fail
  refine (K2.out _ HM.out.2).mono ?_
  rintro e w1 ⟨rfl, rfl⟩
  go_wp2_with fail
  go_ret
  exact ⟨rfl, ⟨_, _, ⟨HM.out.1, HM.out.2, T0.out.a, T0.out.b, T0.out.c, T0.out.d⟩⟩, fun w0 h0 _ _ _ _ => h0.trans HX1.out⟩

set_option maxHeartbeats 2000000 in
set_option maxRecDepth 100000 in
theorem does_put {w : World} {p q p2 q2 : Nat} {B : List UInt8} {h : Int} (t : Two w p q p2 q2 B h) (k x y z : Int) (hk : 0 ≤ k ∧ k ≤ 255) (hk2 : k % 13 = 1) (hx : I64 x) (hy : I64 y) (hz : I64 z) :
    Calls Try.prog 14 #[Pt p, Pt p2, .agg #[.int .u8 k, .int .i64 x, .int .i64 y, .int .i64 z]] w (Did w p q p2 q2) := by
  obtain ⟨u, B2, k1, k2⟩ := both_put B h x y hx hy
  have K1 := Lib.hid (fun W hm => k1 W p q hm)
  have K2 := Lib.hid (fun W hm => k2 W p2 q2 hm)
  clear k1 k2
  have T0 := Lib.hid t
  have act0 := Act4.last w k x y z 35
  have hX1 := (Ext.refl w).cells #[.int .u8 k, .int .i64 x, .int .i64 y, .int .i64 z] 35
  have m1 := t.m1.ext hX1
  have m2 := t.m2.ext hX1
  have HN := Lib.hid (And.intro (And.intro (Nat.ne_of_gt t.m1.lp) (Nat.ne_of_gt t.m1.lq)) (And.intro (Nat.ne_of_gt t.m2.lp) (Nat.ne_of_gt t.m2.lq)))
  have HM := Lib.hid (And.intro m1 m2)
  have HX1 := Lib.hid hX1
  clear t m1 m2 hX1
  go_enter Try.func14, Try.ntmps14
  go_wp2_with fail
  go_region_held3 (fun W => W.cell? ⟨w.heap.size, 1, none⟩ = some (.int .i64 x) ∧ W.cell? ⟨w.heap.size, 2, none⟩ = some (.int .i64 y)) (first | exact ⟨act0.c1, act0.c2⟩ | exact ⟨act0.drew.c1, act0.drew.c2⟩ | exact ⟨act1.c1, act1.c2⟩ | exact ⟨act2.c1, act2.c2⟩)
    (first | ((with_reducible refine (K1.out _ HM.out.1.drew).mono ?_); rintro e w1 ⟨rfl, hm1, hk1⟩; have hm2 := HM.out.2.drew.other hk1 T0.out.a.symm T0.out.c.symm T0.out.b.symm T0.out.d.symm; have act1 := act0.drew.kept hk1 HN.out.1.1 HN.out.1.2) | ((with_reducible refine (K2.out _ hm2).mono ?_); rintro e w2 ⟨rfl, hm3, hk2'⟩; have hm4 := hm1.other hk2' T0.out.a T0.out.b T0.out.c T0.out.d; have act2 := act1.kept hk2' HN.out.2.1 HN.out.2.2))
  go_wp2_with fail
  go_ret
  exact ⟨by simp, ⟨_, _, ⟨hm4, hm3, T0.out.a, T0.out.b, T0.out.c, T0.out.d⟩⟩, fun w0 h0 a1 a2 a3 a4 => ((h0.trans HX1.out.drew).kept hk1 a1 a2).kept hk2' a3 a4⟩

set_option maxHeartbeats 2000000 in
set_option maxRecDepth 100000 in
theorem does_getbyte {w : World} {p q p2 q2 : Nat} {B : List UInt8} {h : Int} (t : Two w p q p2 q2 B h) (k x y z : Int) (hk : 0 ≤ k ∧ k ≤ 255) (hk2 : k % 13 = 2) (hx : I64 x) (hy : I64 y) (hz : I64 z) :
    Calls Try.prog 14 #[Pt p, Pt p2, .agg #[.int .u8 k, .int .i64 x, .int .i64 y, .int .i64 z]] w (Did w p q p2 q2) := by
  obtain ⟨v, u, k1, k2⟩ := both_getbyte B h x hx
  have K1 := Lib.hid (fun W hm => k1 W p q hm)
  have K2 := Lib.hid (fun W hm => k2 W p2 q2 hm)
  clear k1 k2
  have T0 := Lib.hid t
  have act0 := Act4.last w k x y z 35
  have hX1 := (Ext.refl w).cells #[.int .u8 k, .int .i64 x, .int .i64 y, .int .i64 z] 35
  have m1 := t.m1.ext hX1
  have m2 := t.m2.ext hX1
  have HN := Lib.hid (And.intro (And.intro (Nat.ne_of_gt t.m1.lp) (Nat.ne_of_gt t.m1.lq)) (And.intro (Nat.ne_of_gt t.m2.lp) (Nat.ne_of_gt t.m2.lq)))
  have HM := Lib.hid (And.intro m1 m2)
  have HX1 := Lib.hid hX1
  clear t m1 m2 hX1
  go_enter Try.func14, Try.ntmps14
  go_wp2_with fail
  refine (K1.out _ HM.out.1).mono ?_
  rintro e w1 ⟨rfl, rfl⟩
  go_wp2_with fail
  refine (K2.out _ HM.out.2).mono ?_
  rintro e w1 ⟨rfl, rfl⟩
  go_wp2_with fail
  go_ret
  exact ⟨rfl, ⟨_, _, ⟨HM.out.1, HM.out.2, T0.out.a, T0.out.b, T0.out.c, T0.out.d⟩⟩, fun w0 h0 _ _ _ _ => h0.trans HX1.out⟩

set_option maxHeartbeats 2000000 in
set_option maxRecDepth 100000 in
theorem does_putbyte {w : World} {p q p2 q2 : Nat} {B : List UInt8} {h : Int} (t : Two w p q p2 q2 B h) (k x y z : Int) (hk : 0 ≤ k ∧ k ≤ 255) (hk2 : k % 13 = 3) (hx : I64 x) (hy : I64 y) (hz : I64 z) :
    Calls Try.prog 14 #[Pt p, Pt p2, .agg #[.int .u8 k, .int .i64 x, .int .i64 y, .int .i64 z]] w (Did w p q p2 q2) := by
  obtain ⟨c, hc⟩ := byteI y
  have hc2 : IntKind.u8.wrap y = (c.toNat : Int) := hc
  clear hc
  obtain ⟨u, B2, k1, k2⟩ := both_putbyte B h x c hx
  have K1 := Lib.hid (fun W hm => k1 W p q hm)
  have K2 := Lib.hid (fun W hm => k2 W p2 q2 hm)
  clear k1 k2
  have T0 := Lib.hid t
  have act0 := Act4.last w k x y z 35
  have hX1 := (Ext.refl w).cells #[.int .u8 k, .int .i64 x, .int .i64 y, .int .i64 z] 35
  have m1 := t.m1.ext hX1
  have m2 := t.m2.ext hX1
  have HN := Lib.hid (And.intro (And.intro (Nat.ne_of_gt t.m1.lp) (Nat.ne_of_gt t.m1.lq)) (And.intro (Nat.ne_of_gt t.m2.lp) (Nat.ne_of_gt t.m2.lq)))
  have HM := Lib.hid (And.intro m1 m2)
  have HX1 := Lib.hid hX1
  clear t m1 m2 hX1
  go_enter Try.func14, Try.ntmps14
  go_wp2_with fail
  go_region_held3 (fun W => W.cell? ⟨w.heap.size, 1, none⟩ = some (.int .i64 x) ∧ W.cell? ⟨w.heap.size, 2, none⟩ = some (.int .i64 y)) (first | exact ⟨act0.c1, act0.c2⟩ | exact ⟨act0.drew.c1, act0.drew.c2⟩ | exact ⟨act1.c1, act1.c2⟩ | exact ⟨act2.c1, act2.c2⟩)
    (first | ((with_reducible refine (K1.out _ HM.out.1.drew).mono ?_); rintro e w1 ⟨rfl, hm1, hk1⟩; have hm2 := HM.out.2.drew.other hk1 T0.out.a.symm T0.out.c.symm T0.out.b.symm T0.out.d.symm; have act1 := act0.drew.kept hk1 HN.out.1.1 HN.out.1.2) | ((with_reducible refine (K2.out _ hm2).mono ?_); rintro e w2 ⟨rfl, hm3, hk2'⟩; have hm4 := hm1.other hk2' T0.out.a T0.out.b T0.out.c T0.out.d; have act2 := act1.kept hk2' HN.out.2.1 HN.out.2.2))
  go_wp2_with fail
  go_ret
  exact ⟨by simp, ⟨_, _, ⟨hm4, hm3, T0.out.a, T0.out.b, T0.out.c, T0.out.d⟩⟩, fun w0 h0 a1 a2 a3 a4 => ((h0.trans HX1.out.drew).kept hk1 a1 a2).kept hk2' a3 a4⟩

set_option maxHeartbeats 2000000 in
set_option maxRecDepth 100000 in
theorem does_text {w : World} {p q p2 q2 : Nat} {B : List UInt8} {h : Int} (t : Two w p q p2 q2 B h) (k x y z : Int) (hk : 0 ≤ k ∧ k ≤ 255) (hk2 : k % 13 = 4) (hx : I64 x) (hy : I64 y) (hz : I64 z) :
    Calls Try.prog 14 #[Pt p, Pt p2, .agg #[.int .u8 k, .int .i64 x, .int .i64 y, .int .i64 z]] w (Did w p q p2 q2) := by
  obtain ⟨v, u, k1, k2⟩ := both_text B h x y hx hy
  have K1 := Lib.hid (fun W hm => k1 W p q hm)
  have K2 := Lib.hid (fun W hm => k2 W p2 q2 hm)
  clear k1 k2
  have T0 := Lib.hid t
  have act0 := Act4.last w k x y z 35
  have hX1 := (Ext.refl w).cells #[.int .u8 k, .int .i64 x, .int .i64 y, .int .i64 z] 35
  have m1 := t.m1.ext hX1
  have m2 := t.m2.ext hX1
  have HN := Lib.hid (And.intro (And.intro (Nat.ne_of_gt t.m1.lp) (Nat.ne_of_gt t.m1.lq)) (And.intro (Nat.ne_of_gt t.m2.lp) (Nat.ne_of_gt t.m2.lq)))
  have HM := Lib.hid (And.intro m1 m2)
  have HX1 := Lib.hid hX1
  clear t m1 m2 hX1
  go_enter Try.func14, Try.ntmps14
  go_wp2_with fail
  refine (K1.out _ HM.out.1).mono ?_
  rintro e w1 ⟨rfl, rfl⟩
  go_wp2_with fail
  refine (K2.out _ HM.out.2).mono ?_
  rintro e w1 ⟨rfl, rfl⟩
  go_wp2_with fail
  go_ret
  exact ⟨ret_true (by simp), ⟨_, _, ⟨HM.out.1, HM.out.2, T0.out.a, T0.out.b, T0.out.c, T0.out.d⟩⟩, fun w0 h0 _ _ _ _ => h0.trans HX1.out⟩

set_option maxHeartbeats 2000000 in
set_option maxRecDepth 100000 in
theorem does_fill {w : World} {p q p2 q2 : Nat} {B : List UInt8} {h : Int} (t : Two w p q p2 q2 B h) (k x y z : Int) (hk : 0 ≤ k ∧ k ≤ 255) (hk2 : k % 13 = 6) (hx : I64 x) (hy : I64 y) (hz : I64 z) :
    Calls Try.prog 14 #[Pt p, Pt p2, .agg #[.int .u8 k, .int .i64 x, .int .i64 y, .int .i64 z]] w (Did w p q p2 q2) := by
  obtain ⟨c, hc⟩ := byteI z
  have hc2 : IntKind.u8.wrap z = (c.toNat : Int) := hc
  clear hc
  obtain ⟨u, B2, k1, k2⟩ := both_fill B h x y c hx hy
  have K1 := Lib.hid (fun W hm => k1 W p q hm)
  have K2 := Lib.hid (fun W hm => k2 W p2 q2 hm)
  clear k1 k2
  have T0 := Lib.hid t
  have act0 := Act4.last w k x y z 35
  have hX1 := (Ext.refl w).cells #[.int .u8 k, .int .i64 x, .int .i64 y, .int .i64 z] 35
  have m1 := t.m1.ext hX1
  have m2 := t.m2.ext hX1
  have HN := Lib.hid (And.intro (And.intro (Nat.ne_of_gt t.m1.lp) (Nat.ne_of_gt t.m1.lq)) (And.intro (Nat.ne_of_gt t.m2.lp) (Nat.ne_of_gt t.m2.lq)))
  have HM := Lib.hid (And.intro m1 m2)
  have HX1 := Lib.hid hX1
  clear t m1 m2 hX1
  go_enter Try.func14, Try.ntmps14
  go_wp2_with fail
  go_region_held3 (fun W => W.cell? ⟨w.heap.size, 1, none⟩ = some (.int .i64 x) ∧ W.cell? ⟨w.heap.size, 2, none⟩ = some (.int .i64 y) ∧ W.cell? ⟨w.heap.size, 3, none⟩ = some (.int .i64 z)) (first | exact ⟨act0.c1, act0.c2, act0.c3⟩ | exact ⟨act0.drew.c1, act0.drew.c2, act0.drew.c3⟩ | exact ⟨act1.c1, act1.c2, act1.c3⟩ | exact ⟨act2.c1, act2.c2, act2.c3⟩)
    (first | ((with_reducible refine (K1.out _ HM.out.1.drew).mono ?_); rintro e w1 ⟨rfl, hm1, hk1⟩; have hm2 := HM.out.2.drew.other hk1 T0.out.a.symm T0.out.c.symm T0.out.b.symm T0.out.d.symm; have act1 := act0.drew.kept hk1 HN.out.1.1 HN.out.1.2) | ((with_reducible refine (K2.out _ hm2).mono ?_); rintro e w2 ⟨rfl, hm3, hk2'⟩; have hm4 := hm1.other hk2' T0.out.a T0.out.b T0.out.c T0.out.d; have act2 := act1.kept hk2' HN.out.2.1 HN.out.2.2))
  go_wp2_with fail
  go_ret
  exact ⟨by simp, ⟨_, _, ⟨hm4, hm3, T0.out.a, T0.out.b, T0.out.c, T0.out.d⟩⟩, fun w0 h0 a1 a2 a3 a4 => ((h0.trans HX1.out.drew).kept hk1 a1 a2).kept hk2' a3 a4⟩

set_option maxHeartbeats 2000000 in
set_option maxRecDepth 100000 in
theorem does_move {w : World} {p q p2 q2 : Nat} {B : List UInt8} {h : Int} (t : Two w p q p2 q2 B h) (k x y z : Int) (hk : 0 ≤ k ∧ k ≤ 255) (hk2 : k % 13 = 7) (hx : I64 x) (hy : I64 y) (hz : I64 z) :
    Calls Try.prog 14 #[Pt p, Pt p2, .agg #[.int .u8 k, .int .i64 x, .int .i64 y, .int .i64 z]] w (Did w p q p2 q2) := by
  obtain ⟨u, B2, k1, k2⟩ := both_move B h x y z hx hy hz
  have K1 := Lib.hid (fun W hm => k1 W p q hm)
  have K2 := Lib.hid (fun W hm => k2 W p2 q2 hm)
  clear k1 k2
  have T0 := Lib.hid t
  have act0 := Act4.last w k x y z 35
  have hX1 := (Ext.refl w).cells #[.int .u8 k, .int .i64 x, .int .i64 y, .int .i64 z] 35
  have m1 := t.m1.ext hX1
  have m2 := t.m2.ext hX1
  have HN := Lib.hid (And.intro (And.intro (Nat.ne_of_gt t.m1.lp) (Nat.ne_of_gt t.m1.lq)) (And.intro (Nat.ne_of_gt t.m2.lp) (Nat.ne_of_gt t.m2.lq)))
  have HM := Lib.hid (And.intro m1 m2)
  have HX1 := Lib.hid hX1
  clear t m1 m2 hX1
  go_enter Try.func14, Try.ntmps14
  go_wp2_with fail
  go_region_held3 (fun W => W.cell? ⟨w.heap.size, 1, none⟩ = some (.int .i64 x) ∧ W.cell? ⟨w.heap.size, 2, none⟩ = some (.int .i64 y) ∧ W.cell? ⟨w.heap.size, 3, none⟩ = some (.int .i64 z)) (first | exact ⟨act0.c1, act0.c2, act0.c3⟩ | exact ⟨act0.drew.c1, act0.drew.c2, act0.drew.c3⟩ | exact ⟨act1.c1, act1.c2, act1.c3⟩ | exact ⟨act2.c1, act2.c2, act2.c3⟩)
    (first | ((with_reducible refine (K1.out _ HM.out.1.drew).mono ?_); rintro e w1 ⟨rfl, hm1, hk1⟩; have hm2 := HM.out.2.drew.other hk1 T0.out.a.symm T0.out.c.symm T0.out.b.symm T0.out.d.symm; have act1 := act0.drew.kept hk1 HN.out.1.1 HN.out.1.2) | ((with_reducible refine (K2.out _ hm2).mono ?_); rintro e w2 ⟨rfl, hm3, hk2'⟩; have hm4 := hm1.other hk2' T0.out.a T0.out.b T0.out.c T0.out.d; have act2 := act1.kept hk2' HN.out.2.1 HN.out.2.2))
  go_wp2_with fail
  go_ret
  exact ⟨by simp, ⟨_, _, ⟨hm4, hm3, T0.out.a, T0.out.b, T0.out.c, T0.out.d⟩⟩, fun w0 h0 a1 a2 a3 a4 => ((h0.trans HX1.out.drew).kept hk1 a1 a2).kept hk2' a3 a4⟩

set_option maxHeartbeats 2000000 in
set_option maxRecDepth 100000 in
theorem does_allot {w : World} {p q p2 q2 : Nat} {B : List UInt8} {h : Int} (t : Two w p q p2 q2 B h) (k x y z : Int) (hk : 0 ≤ k ∧ k ≤ 255) (hk2 : k % 13 = 8) (hx : I64 x) (hy : I64 y) (hz : I64 z) :
    Calls Try.prog 14 #[Pt p, Pt p2, .agg #[.int .u8 k, .int .i64 x, .int .i64 y, .int .i64 z]] w (Did w p q p2 q2) := by
  obtain ⟨u, h2, k1, k2⟩ := both_allot B h x hx
  have K1 := Lib.hid (fun W hm => k1 W p q hm)
  have K2 := Lib.hid (fun W hm => k2 W p2 q2 hm)
  clear k1 k2
  have T0 := Lib.hid t
  have act0 := Act4.last w k x y z 35
  have hX1 := (Ext.refl w).cells #[.int .u8 k, .int .i64 x, .int .i64 y, .int .i64 z] 35
  have m1 := t.m1.ext hX1
  have m2 := t.m2.ext hX1
  have HN := Lib.hid (And.intro (And.intro (Nat.ne_of_gt t.m1.lp) (Nat.ne_of_gt t.m1.lq)) (And.intro (Nat.ne_of_gt t.m2.lp) (Nat.ne_of_gt t.m2.lq)))
  have HM := Lib.hid (And.intro m1 m2)
  have HX1 := Lib.hid hX1
  clear t m1 m2 hX1
  go_enter Try.func14, Try.ntmps14
  go_wp2_with fail
  go_region_held3 (fun W => W.cell? ⟨w.heap.size, 1, none⟩ = some (.int .i64 x)) (first | exact act0.c1 | exact act0.drew.c1 | exact act1.c1 | exact act2.c1)
    (first | ((with_reducible refine (K1.out _ HM.out.1.drew).mono ?_); rintro e w1 ⟨rfl, hm1, hk1⟩; have hm2 := HM.out.2.drew.other hk1 T0.out.a.symm T0.out.c.symm T0.out.b.symm T0.out.d.symm; have act1 := act0.drew.kept hk1 HN.out.1.1 HN.out.1.2) | ((with_reducible refine (K2.out _ hm2).mono ?_); rintro e w2 ⟨rfl, hm3, hk2'⟩; have hm4 := hm1.other hk2' T0.out.a T0.out.b T0.out.c T0.out.d; have act2 := act1.kept hk2' HN.out.2.1 HN.out.2.2))
  go_wp2_with fail
  go_ret
  exact ⟨by simp, ⟨_, _, ⟨hm4, hm3, T0.out.a, T0.out.b, T0.out.c, T0.out.d⟩⟩, fun w0 h0 a1 a2 a3 a4 => ((h0.trans HX1.out.drew).kept hk1 a1 a2).kept hk2' a3 a4⟩

set_option maxHeartbeats 2000000 in
set_option maxRecDepth 100000 in
theorem does_align {w : World} {p q p2 q2 : Nat} {B : List UInt8} {h : Int} (t : Two w p q p2 q2 B h) (k x y z : Int) (hk : 0 ≤ k ∧ k ≤ 255) (hk2 : k % 13 = 9) (hx : I64 x) (hy : I64 y) (hz : I64 z) :
    Calls Try.prog 14 #[Pt p, Pt p2, .agg #[.int .u8 k, .int .i64 x, .int .i64 y, .int .i64 z]] w (Did w p q p2 q2) := by
  obtain ⟨u, h2, k1, k2⟩ := both_align B h
  have K1 := Lib.hid (fun W hm => k1 W p q hm)
  have K2 := Lib.hid (fun W hm => k2 W p2 q2 hm)
  clear k1 k2
  have T0 := Lib.hid t
  have act0 := Act4.last w k x y z 35
  have hX1 := (Ext.refl w).cells #[.int .u8 k, .int .i64 x, .int .i64 y, .int .i64 z] 35
  have m1 := t.m1.ext hX1
  have m2 := t.m2.ext hX1
  have HN := Lib.hid (And.intro (And.intro (Nat.ne_of_gt t.m1.lp) (Nat.ne_of_gt t.m1.lq)) (And.intro (Nat.ne_of_gt t.m2.lp) (Nat.ne_of_gt t.m2.lq)))
  have HM := Lib.hid (And.intro m1 m2)
  have HX1 := Lib.hid hX1
  clear t m1 m2 hX1
  go_enter Try.func14, Try.ntmps14
  go_wp2_with fail
  refine (K1.out _ HM.out.1).mono ?_
  rintro e w1 ⟨rfl, hm1, hk1⟩
  have hm2 := HM.out.2.other hk1 T0.out.a.symm T0.out.c.symm T0.out.b.symm T0.out.d.symm
  go_wp2_with fail
  refine (K2.out _ hm2).mono ?_
  rintro e w2 ⟨rfl, hm3, hk2'⟩
  have hm4 := hm1.other hk2' T0.out.a T0.out.b T0.out.c T0.out.d
  go_wp2_with fail
  go_ret
  exact ⟨by simp, ⟨_, _, ⟨hm4, hm3, T0.out.a, T0.out.b, T0.out.c, T0.out.d⟩⟩, fun w0 h0 a1 a2 a3 a4 => ((h0.trans HX1.out).kept hk1 a1 a2).kept hk2' a3 a4⟩

set_option maxHeartbeats 2000000 in
set_option maxRecDepth 100000 in
theorem does_comma {w : World} {p q p2 q2 : Nat} {B : List UInt8} {h : Int} (t : Two w p q p2 q2 B h) (k x y z : Int) (hk : 0 ≤ k ∧ k ≤ 255) (hk2 : k % 13 = 10) (hx : I64 x) (hy : I64 y) (hz : I64 z) :
    Calls Try.prog 14 #[Pt p, Pt p2, .agg #[.int .u8 k, .int .i64 x, .int .i64 y, .int .i64 z]] w (Did w p q p2 q2) := by
  obtain ⟨u, B2, h2, k1, k2⟩ := both_comma B h x hx
  have K1 := Lib.hid (fun W hm => k1 W p q hm)
  have K2 := Lib.hid (fun W hm => k2 W p2 q2 hm)
  clear k1 k2
  have T0 := Lib.hid t
  have act0 := Act4.last w k x y z 35
  have hX1 := (Ext.refl w).cells #[.int .u8 k, .int .i64 x, .int .i64 y, .int .i64 z] 35
  have m1 := t.m1.ext hX1
  have m2 := t.m2.ext hX1
  have HN := Lib.hid (And.intro (And.intro (Nat.ne_of_gt t.m1.lp) (Nat.ne_of_gt t.m1.lq)) (And.intro (Nat.ne_of_gt t.m2.lp) (Nat.ne_of_gt t.m2.lq)))
  have HM := Lib.hid (And.intro m1 m2)
  have HX1 := Lib.hid hX1
  clear t m1 m2 hX1
  go_enter Try.func14, Try.ntmps14
  go_wp2_with fail
  go_region_held3 (fun W => W.cell? ⟨w.heap.size, 1, none⟩ = some (.int .i64 x)) (first | exact act0.c1 | exact act0.drew.c1 | exact act1.c1 | exact act2.c1)
    (first | ((with_reducible refine (K1.out _ HM.out.1.drew).mono ?_); rintro e w1 ⟨rfl, hm1, hk1⟩; have hm2 := HM.out.2.drew.other hk1 T0.out.a.symm T0.out.c.symm T0.out.b.symm T0.out.d.symm; have act1 := act0.drew.kept hk1 HN.out.1.1 HN.out.1.2) | ((with_reducible refine (K2.out _ hm2).mono ?_); rintro e w2 ⟨rfl, hm3, hk2'⟩; have hm4 := hm1.other hk2' T0.out.a T0.out.b T0.out.c T0.out.d; have act2 := act1.kept hk2' HN.out.2.1 HN.out.2.2))
  go_wp2_with fail
  go_ret
  exact ⟨by simp, ⟨_, _, ⟨hm4, hm3, T0.out.a, T0.out.b, T0.out.c, T0.out.d⟩⟩, fun w0 h0 a1 a2 a3 a4 => ((h0.trans HX1.out.drew).kept hk1 a1 a2).kept hk2' a3 a4⟩

set_option maxHeartbeats 2000000 in
set_option maxRecDepth 100000 in
theorem does_ccomma {w : World} {p q p2 q2 : Nat} {B : List UInt8} {h : Int} (t : Two w p q p2 q2 B h) (k x y z : Int) (hk : 0 ≤ k ∧ k ≤ 255) (hk2 : k % 13 = 11) (hx : I64 x) (hy : I64 y) (hz : I64 z) :
    Calls Try.prog 14 #[Pt p, Pt p2, .agg #[.int .u8 k, .int .i64 x, .int .i64 y, .int .i64 z]] w (Did w p q p2 q2) := by
  obtain ⟨c, hc⟩ := byteI x
  have hc2 : IntKind.u8.wrap x = (c.toNat : Int) := hc
  clear hc
  obtain ⟨u, B2, h2, k1, k2⟩ := both_ccomma B h c
  have K1 := Lib.hid (fun W hm => k1 W p q hm)
  have K2 := Lib.hid (fun W hm => k2 W p2 q2 hm)
  clear k1 k2
  have T0 := Lib.hid t
  have act0 := Act4.last w k x y z 35
  have hX1 := (Ext.refl w).cells #[.int .u8 k, .int .i64 x, .int .i64 y, .int .i64 z] 35
  have m1 := t.m1.ext hX1
  have m2 := t.m2.ext hX1
  have HN := Lib.hid (And.intro (And.intro (Nat.ne_of_gt t.m1.lp) (Nat.ne_of_gt t.m1.lq)) (And.intro (Nat.ne_of_gt t.m2.lp) (Nat.ne_of_gt t.m2.lq)))
  have HM := Lib.hid (And.intro m1 m2)
  have HX1 := Lib.hid hX1
  clear t m1 m2 hX1
  go_enter Try.func14, Try.ntmps14
  go_wp2_with fail
  go_region_held3 (fun W => W.cell? ⟨w.heap.size, 1, none⟩ = some (.int .i64 x)) (first | exact act0.c1 | exact act0.drew.c1 | exact act1.c1 | exact act2.c1)
    (first | ((with_reducible refine (K1.out _ HM.out.1.drew).mono ?_); rintro e w1 ⟨rfl, hm1, hk1⟩; have hm2 := HM.out.2.drew.other hk1 T0.out.a.symm T0.out.c.symm T0.out.b.symm T0.out.d.symm; have act1 := act0.drew.kept hk1 HN.out.1.1 HN.out.1.2) | ((with_reducible refine (K2.out _ hm2).mono ?_); rintro e w2 ⟨rfl, hm3, hk2'⟩; have hm4 := hm1.other hk2' T0.out.a T0.out.b T0.out.c T0.out.d; have act2 := act1.kept hk2' HN.out.2.1 HN.out.2.2))
  go_wp2_with fail
  go_ret
  exact ⟨by simp, ⟨_, _, ⟨hm4, hm3, T0.out.a, T0.out.b, T0.out.c, T0.out.d⟩⟩, fun w0 h0 a1 a2 a3 a4 => ((h0.trans HX1.out.drew).kept hk1 a1 a2).kept hk2' a3 a4⟩

set_option maxHeartbeats 2000000 in
set_option maxRecDepth 100000 in
theorem does_here {w : World} {p q p2 q2 : Nat} {B : List UInt8} {h : Int} (t : Two w p q p2 q2 B h) (k x y z : Int) (hk : 0 ≤ k ∧ k ≤ 255) (hk2 : k % 13 = 12) (hx : I64 x) (hy : I64 y) (hz : I64 z) :
    Calls Try.prog 14 #[Pt p, Pt p2, .agg #[.int .u8 k, .int .i64 x, .int .i64 y, .int .i64 z]] w (Did w p q p2 q2) := by

  have T0 := Lib.hid t
  have act0 := Act4.last w k x y z 35
  have hX1 := (Ext.refl w).cells #[.int .u8 k, .int .i64 x, .int .i64 y, .int .i64 z] 35
  have m1 := t.m1.ext hX1
  have m2 := t.m2.ext hX1
  have HN := Lib.hid (And.intro (And.intro (Nat.ne_of_gt t.m1.lp) (Nat.ne_of_gt t.m1.lq)) (And.intro (Nat.ne_of_gt t.m2.lp) (Nat.ne_of_gt t.m2.lq)))
  have HM := Lib.hid (And.intro m1 m2)
  have HX1 := Lib.hid hX1
  clear t m1 m2 hX1
  go_enter Try.func14, Try.ntmps14
  have HH := Lib.hid (fun n => (here_calls (HM.out.1.ext ((Ext.refl _).drewN n))).mono fun e w' (h : _ ∧ _) => (⟨h.1, n, h.2.symm⟩ : _ ∧ ∃ m, w' = _))
  have HS := Lib.hid (fun n => (size_calls (HM.out.1.ext ((Ext.refl _).drewN n))).mono fun e w' (h : _ ∧ _) => (⟨h.1, n, h.2.symm⟩ : _ ∧ ∃ m, w' = _))
  have c0 := HM.out.2.c0
  have c1 := HM.out.2.c1
  go_wp2_with fail
  go_quiet ((first | (go_at_call 16; exact HH.out _) | (go_at_call 26; exact HS.out _)))
  go_wp2
  go_ret
  exact ⟨by simp, ⟨_, _, ⟨HM.out.1.ext ((Ext.refl _).drewN nq), HM.out.2.ext ((Ext.refl _).drewN nq), T0.out.a, T0.out.b, T0.out.c, T0.out.d⟩⟩, fun w0 h0 _ _ _ _ => (h0.trans HX1.out).drewN nq⟩
end Go.Proofs.Ytahnbllmgalgpaa
