/- The document's answers for two real numbers: the lesser one; each operation, whatever both are. Condition: cells are integers of 64 bits. The document's answers for two real numbers: each operation. Condition: cells are integers of 64 bits. The document's answer for two real numbers is what the program gives. Condition: cells are integers of 64 bits. -/
import Derived.Test.YtegcecpmdgljpaaGreatDoorWF
import Derived.Test.YtegcecpmdgljpaaGreatDoorWH
import Derived.Test.YtegcecpmdgljpaaGreatDoorUO
namespace Go.Proofs.YtegcecpmdgljpaaGreatDoor
open Go.RowKit
set_option linter.unusedVariables false
open Ieee (double)

set_option maxHeartbeats 4000000 in
set_option maxRecDepth 100000 in
theorem rlesser_z (s t mn : Bool) (e j f g : Int) (w : World) :
    Calls Tryz.prog 63 #[prt 2 s 0 e, prt 2 t 0 j, .int .i64 f, .int .i64 g, .bool mn] w fun e w' => e = .returned (.int .i64 (cellOf (double.word (mn && (s || t) || s && t) 0))) ∧ Ext w w' := by
  have X : ∀ a b : Array Value, Ext w ((w.alloc (.cells a 111)).alloc (.cells b 111)) := fun a b => ((Ext.refl w).cells _ _).cells _ _
  have HX := Lib.hid X
  have GF := Lib.hid (rsigned_z false)
  have GT := Lib.hid (rsigned_z true)
  obtain ⟨zt, hzt⟩ : ∃ x, x = cellOf (double.word true 0) := ⟨_, rfl⟩
  obtain ⟨zf, hzf⟩ : ∃ x, x = cellOf (double.word false 0) := ⟨_, rfl⟩
  rw [← hzt] at GT
  rw [← hzf] at GF
  have HZT := Lib.hid hzt
  have HZF := Lib.hid hzf
  clear X hzt hzf
  cases s <;> cases t <;> cases mn <;>
    (go_enter Tryz.func63, Tryz.ntmps63
     go_wp2_with (first | ((with_reducible refine (GF.out _).mono ?_); rintro e' w' ⟨rfl, rfl⟩) | ((with_reducible refine (GT.out _).mono ?_); rintro e' w' ⟨rfl, rfl⟩))
     go_ret
     first
     | exact ⟨by rw [HZT.out]; rfl, HX.out _ _⟩
     | exact ⟨by rw [HZF.out]; rfl, HX.out _ _⟩)
set_option maxHeartbeats 4000000 in
set_option maxRecDepth 100000 in
theorem rlesser_n (ka kb : Int) (s t : Bool) (m n : Nat) (e j f g : Int) (mn bb : Bool) (key : (ka = 1 ∧ kb = 1) ∨ (ka = 1 ∧ kb = 2) ∨ (ka = 2 ∧ kb = 1) ∨ (ka = 2 ∧ kb = 2 ∧ ((m : Int) == 0) = false) ∨ (ka = 2 ∧ kb = 2 ∧ ((m : Int) == 0) = true ∧ ((n : Int) == 0) = false)) (HB0 : ∀ W, Calls Tryz.prog 59 #[prt ka s m e, prt kb t n j, .int .i64 f, .int .i64 g] W fun e w' => e = .returned (.bool bb) ∧ Ext W w') (w : World) :
    Calls Tryz.prog 63 #[prt ka s m e, prt kb t n j, .int .i64 f, .int .i64 g, .bool mn] w fun e w' => e = .returned (.int .i64 (if bb = mn then f else g)) ∧ Ext w w' := by
  have X : ∀ a b : Array Value, Ext w ((w.alloc (.cells a 111)).alloc (.cells b 111)) := fun a b => ((Ext.refl w).cells _ _).cells _ _
  have HX := Lib.hid X
  have HB := Lib.hid HB0
  clear X HB0
  cases bb <;> cases mn <;> rcases key with ⟨rfl, rfl⟩ | ⟨rfl, rfl⟩ | ⟨rfl, rfl⟩ | ⟨rfl, rfl, hm⟩ | ⟨rfl, rfl, hm, hn⟩ <;>
    (go_enter Tryz.func63, Tryz.ntmps63
     go_wp2_with fail
     refine (HB.out _).mono ?_
     rintro e' w' ⟨rfl, hx⟩
     go_wp2_with fail
     go_ret
     exact ⟨rfl, (HX.out _ _).trans hx⟩)
end Go.Proofs.YtegcecpmdgljpaaGreatDoor

namespace Go.Proofs.YtegcecpmdgljpaaGreatDoor
open Go.RowKit
set_option linter.unusedVariables false
open Ieee (double)

def OpenN (f ka : Int) (s : Bool) (m : Int) (e : Int) : Prop := ∀ W, Calls Tryz.prog 58 #[.int .i64 f] W fun e' w' => e' = .returned (.agg #[.int .i64 ka, .bool s, .int .u64 m, .int .i64 e]) ∧ Ext W w'
structure Q4 (w : World) (b : Nat) (k : Int) (n : Bool) (m : Int) (e : Int) : Prop where
  c0 : w.cell? ⟨b, 0, none⟩ = some (.int .i64 k)
  c1 : w.cell? ⟨b, 1, none⟩ = some (.bool n)
  c2 : w.cell? ⟨b, 2, none⟩ = some (.int .u64 m)
  c3 : w.cell? ⟨b, 3, none⟩ = some (.int .i64 e)
  f : ∀ i, w.frozen? ⟨b, i, none⟩ = false
  lt : b < w.heap.size
theorem Q4.last {X : World} {k : Int} {n : Bool} {m : Int} {e : Int} {t : TypeId} : Q4 (X.alloc (.cells #[.int .i64 k, .bool n, .int .u64 m, .int .i64 e] t)) X.heap.size k n m e := by
  have hb : (X.alloc (.cells #[.int .i64 k, .bool n, .int .u64 m, .int .i64 e] t)).heap[X.heap.size]? = some (.cells #[.int .i64 k, .bool n, .int .u64 m, .int .i64 e] t) := (MapKept.heap_alloc X _).1
  refine ⟨?_, ?_, ?_, ?_, fun i => ?_, by rw [size_alloc]; omega⟩
  · simp only [World.cell?, hb]; rfl
  · simp only [World.cell?, hb]; rfl
  · simp only [World.cell?, hb]; rfl
  · simp only [World.cell?, hb]; rfl
  · simp only [World.frozen?, hb]; simp
theorem Q4.ext {w w' : World} {b : Nat} {k : Int} {n : Bool} {m : Int} {e : Int} (h : Q4 w b k n m e) (x : Ext w w') : Q4 w' b k n m e :=
  ⟨ext_keeps x h.c0, ext_keeps x h.c1, ext_keeps x h.c2, ext_keeps x h.c3, fun i => (x.2 _).trans (h.f i), Nat.lt_of_lt_of_le h.lt x.1.size⟩
theorem rtruth4 (b : Bool) (w : World) : Calls Tryz.prog 51 #[.bool b] w fun e w' => e = .returned (.int .i64 (truthI b)) ∧ w = w' := by
  cases b <;> (go_enter Tryz.func51, Tryz.ntmps51; go_wp2; go_ret; exact ⟨rfl, rfl⟩)
set_option maxHeartbeats 4000000 in
set_option maxRecDepth 100000 in
theorem rtwo_add (f g ka kb : Int) (s t : Bool) (m n : Int) (e j res : Int) (ha : (ka == 0) = false) (hb : (kb == 0) = false) (OA : OpenN f ka s m e) (OB : OpenN g kb t n j) (HC : ∀ W, Calls Tryz.prog 60 #[.agg #[.int .i64 ka, .bool s, .int .u64 m, .int .i64 e], .agg #[.int .i64 kb, .bool t, .int .u64 n, .int .i64 j]] W fun e w' => e = .returned (.int .i64 res) ∧ Ext W w') (w : World) :
    Calls Tryz.prog 37 #[.int .i64 3, .int .i64 f, .int .i64 g] w fun e w' => e = .returned (.tuple #[.int .i64 res, .int .i64 0]) ∧ Ext w w' := by
  have HA := Lib.hid OA
  have HB := Lib.hid OB
  have HH := Lib.hid HC
  clear HC
  clear OA OB
  go_enter Tryz.func37, Tryz.ntmps37
  go_wp2_with fail
  refine (HA.out _).mono ?_
  rintro e' w1 ⟨rfl, hx1⟩
  go_wp2_with fail
  refine (HB.out _).mono ?_
  rintro e' w2 ⟨rfl, hx2⟩
  have q1 := (Q4.last (X := w1) (k := ka) (n := s) (m := m) (e := e) (t := 111)).ext hx2
  have a0 := q1.c0
  have a1 := q1.c1
  have a2 := q1.c2
  have a3 := q1.c3
  have fa := q1.f
  have la := q1.lt
  have HX := Lib.hid ((hx1.cells #[.int .i64 ka, .bool s, .int .u64 m, .int .i64 e] 111).trans hx2)
  clear q1 hx1 hx2 HA HB
  go_wp2_with fail
  refine (HH.out _).mono ?_
  rintro e' w3 ⟨rfl, hx3⟩
  go_wp2_with fail
  go_ret2
  exact ⟨rfl, (HX.out.cells _ _).trans hx3⟩
set_option maxHeartbeats 4000000 in
set_option maxRecDepth 100000 in
theorem rtwo_sub (f g ka kb : Int) (s t : Bool) (m n : Int) (e j res : Int) (ha : (ka == 0) = false) (hb : (kb == 0) = false) (OA : OpenN f ka s m e) (OB : OpenN g kb t n j) (HC : ∀ W, Calls Tryz.prog 60 #[.agg #[.int .i64 ka, .bool s, .int .u64 m, .int .i64 e], .agg #[.int .i64 kb, .bool (!t), .int .u64 n, .int .i64 j]] W fun e w' => e = .returned (.int .i64 res) ∧ Ext W w') (w : World) :
    Calls Tryz.prog 37 #[.int .i64 4, .int .i64 f, .int .i64 g] w fun e w' => e = .returned (.tuple #[.int .i64 res, .int .i64 0]) ∧ Ext w w' := by
  have HA := Lib.hid OA
  have HB := Lib.hid OB
  have HH := Lib.hid HC
  clear HC
  clear OA OB
  go_enter Tryz.func37, Tryz.ntmps37
  go_wp2_with fail
  refine (HA.out _).mono ?_
  rintro e' w1 ⟨rfl, hx1⟩
  go_wp2_with fail
  refine (HB.out _).mono ?_
  rintro e' w2 ⟨rfl, hx2⟩
  have q1 := (Q4.last (X := w1) (k := ka) (n := s) (m := m) (e := e) (t := 111)).ext hx2
  have a0 := q1.c0
  have a1 := q1.c1
  have a2 := q1.c2
  have a3 := q1.c3
  have fa := q1.f
  have la := q1.lt
  have HX := Lib.hid ((hx1.cells #[.int .i64 ka, .bool s, .int .u64 m, .int .i64 e] 111).trans hx2)
  clear q1 hx1 hx2 HA HB
  go_wp2_with fail
  refine (HH.out _).mono ?_
  rintro e' w3 ⟨rfl, hx3⟩
  go_wp2_with fail
  go_ret2
  exact ⟨rfl, (HX.out.cells _ _).trans hx3⟩
set_option maxHeartbeats 4000000 in
set_option maxRecDepth 100000 in
theorem rtwo_mul (f g ka kb : Int) (s t : Bool) (m n : Int) (e j res : Int) (ha : (ka == 0) = false) (hb : (kb == 0) = false) (OA : OpenN f ka s m e) (OB : OpenN g kb t n j) (HC : ∀ W, Calls Tryz.prog 61 #[.agg #[.int .i64 ka, .bool s, .int .u64 m, .int .i64 e], .agg #[.int .i64 kb, .bool t, .int .u64 n, .int .i64 j]] W fun e w' => e = .returned (.int .i64 res) ∧ Ext W w') (w : World) :
    Calls Tryz.prog 37 #[.int .i64 5, .int .i64 f, .int .i64 g] w fun e w' => e = .returned (.tuple #[.int .i64 res, .int .i64 0]) ∧ Ext w w' := by
  have HA := Lib.hid OA
  have HB := Lib.hid OB
  have HH := Lib.hid HC
  clear HC
  clear OA OB
  go_enter Tryz.func37, Tryz.ntmps37
  go_wp2_with fail
  refine (HA.out _).mono ?_
  rintro e' w1 ⟨rfl, hx1⟩
  go_wp2_with fail
  refine (HB.out _).mono ?_
  rintro e' w2 ⟨rfl, hx2⟩
  have q1 := (Q4.last (X := w1) (k := ka) (n := s) (m := m) (e := e) (t := 111)).ext hx2
  have a0 := q1.c0
  have a1 := q1.c1
  have a2 := q1.c2
  have a3 := q1.c3
  have fa := q1.f
  have la := q1.lt
  have HX := Lib.hid ((hx1.cells #[.int .i64 ka, .bool s, .int .u64 m, .int .i64 e] 111).trans hx2)
  clear q1 hx1 hx2 HA HB
  go_wp2_with fail
  refine (HH.out _).mono ?_
  rintro e' w3 ⟨rfl, hx3⟩
  go_wp2_with fail
  go_ret2
  exact ⟨rfl, (HX.out.cells _ _).trans hx3⟩
set_option maxHeartbeats 4000000 in
set_option maxRecDepth 100000 in
theorem rtwo_div (f g ka kb : Int) (s t : Bool) (m n : Int) (e j res : Int) (ha : (ka == 0) = false) (hb : (kb == 0) = false) (OA : OpenN f ka s m e) (OB : OpenN g kb t n j) (HC : ∀ W, Calls Tryz.prog 62 #[.agg #[.int .i64 ka, .bool s, .int .u64 m, .int .i64 e], .agg #[.int .i64 kb, .bool t, .int .u64 n, .int .i64 j]] W fun e w' => e = .returned (.int .i64 res) ∧ Ext W w') (w : World) :
    Calls Tryz.prog 37 #[.int .i64 6, .int .i64 f, .int .i64 g] w fun e w' => e = .returned (.tuple #[.int .i64 res, .int .i64 0]) ∧ Ext w w' := by
  have HA := Lib.hid OA
  have HB := Lib.hid OB
  have HH := Lib.hid HC
  clear HC
  clear OA OB
  go_enter Tryz.func37, Tryz.ntmps37
  go_wp2_with fail
  refine (HA.out _).mono ?_
  rintro e' w1 ⟨rfl, hx1⟩
  go_wp2_with fail
  refine (HB.out _).mono ?_
  rintro e' w2 ⟨rfl, hx2⟩
  have q1 := (Q4.last (X := w1) (k := ka) (n := s) (m := m) (e := e) (t := 111)).ext hx2
  have a0 := q1.c0
  have a1 := q1.c1
  have a2 := q1.c2
  have a3 := q1.c3
  have fa := q1.f
  have la := q1.lt
  have HX := Lib.hid ((hx1.cells #[.int .i64 ka, .bool s, .int .u64 m, .int .i64 e] 111).trans hx2)
  clear q1 hx1 hx2 HA HB
  go_wp2_with fail
  refine (HH.out _).mono ?_
  rintro e' w3 ⟨rfl, hx3⟩
  go_wp2_with fail
  go_ret2
  exact ⟨rfl, (HX.out.cells _ _).trans hx3⟩
set_option maxHeartbeats 4000000 in
set_option maxRecDepth 100000 in
theorem rtwo_min (f g ka kb : Int) (s t : Bool) (m n : Int) (e j res : Int) (ha : (ka == 0) = false) (hb : (kb == 0) = false) (OA : OpenN f ka s m e) (OB : OpenN g kb t n j) (HC : ∀ W, Calls Tryz.prog 63 #[.agg #[.int .i64 ka, .bool s, .int .u64 m, .int .i64 e], .agg #[.int .i64 kb, .bool t, .int .u64 n, .int .i64 j], .int .i64 f, .int .i64 g, .bool true] W fun e w' => e = .returned (.int .i64 res) ∧ Ext W w') (w : World) :
    Calls Tryz.prog 37 #[.int .i64 7, .int .i64 f, .int .i64 g] w fun e w' => e = .returned (.tuple #[.int .i64 res, .int .i64 0]) ∧ Ext w w' := by
  have HA := Lib.hid OA
  have HB := Lib.hid OB
  have HH := Lib.hid HC
  clear HC
  clear OA OB
  go_enter Tryz.func37, Tryz.ntmps37
  go_wp2_with fail
  refine (HA.out _).mono ?_
  rintro e' w1 ⟨rfl, hx1⟩
  go_wp2_with fail
  refine (HB.out _).mono ?_
  rintro e' w2 ⟨rfl, hx2⟩
  have q1 := (Q4.last (X := w1) (k := ka) (n := s) (m := m) (e := e) (t := 111)).ext hx2
  have a0 := q1.c0
  have a1 := q1.c1
  have a2 := q1.c2
  have a3 := q1.c3
  have fa := q1.f
  have la := q1.lt
  have HX := Lib.hid ((hx1.cells #[.int .i64 ka, .bool s, .int .u64 m, .int .i64 e] 111).trans hx2)
  clear q1 hx1 hx2 HA HB
  go_wp2_with fail
  refine (HH.out _).mono ?_
  rintro e' w3 ⟨rfl, hx3⟩
  go_wp2_with fail
  go_ret2
  exact ⟨rfl, (HX.out.cells _ _).trans hx3⟩
set_option maxHeartbeats 4000000 in
set_option maxRecDepth 100000 in
theorem rtwo_max (f g ka kb : Int) (s t : Bool) (m n : Int) (e j res : Int) (ha : (ka == 0) = false) (hb : (kb == 0) = false) (OA : OpenN f ka s m e) (OB : OpenN g kb t n j) (HC : ∀ W, Calls Tryz.prog 63 #[.agg #[.int .i64 ka, .bool s, .int .u64 m, .int .i64 e], .agg #[.int .i64 kb, .bool t, .int .u64 n, .int .i64 j], .int .i64 f, .int .i64 g, .bool false] W fun e w' => e = .returned (.int .i64 res) ∧ Ext W w') (w : World) :
    Calls Tryz.prog 37 #[.int .i64 8, .int .i64 f, .int .i64 g] w fun e w' => e = .returned (.tuple #[.int .i64 res, .int .i64 0]) ∧ Ext w w' := by
  have HA := Lib.hid OA
  have HB := Lib.hid OB
  have HH := Lib.hid HC
  clear HC
  clear OA OB
  go_enter Tryz.func37, Tryz.ntmps37
  go_wp2_with fail
  refine (HA.out _).mono ?_
  rintro e' w1 ⟨rfl, hx1⟩
  go_wp2_with fail
  refine (HB.out _).mono ?_
  rintro e' w2 ⟨rfl, hx2⟩
  have q1 := (Q4.last (X := w1) (k := ka) (n := s) (m := m) (e := e) (t := 111)).ext hx2
  have a0 := q1.c0
  have a1 := q1.c1
  have a2 := q1.c2
  have a3 := q1.c3
  have fa := q1.f
  have la := q1.lt
  have HX := Lib.hid ((hx1.cells #[.int .i64 ka, .bool s, .int .u64 m, .int .i64 e] 111).trans hx2)
  clear q1 hx1 hx2 HA HB
  go_wp2_with fail
  refine (HH.out _).mono ?_
  rintro e' w3 ⟨rfl, hx3⟩
  go_wp2_with fail
  go_ret2
  exact ⟨rfl, (HX.out.cells _ _).trans hx3⟩
set_option maxHeartbeats 4000000 in
set_option maxRecDepth 100000 in
theorem rtwo_less (f g ka kb : Int) (s t : Bool) (m n : Int) (e j res : Int) (ha : (ka == 0) = false) (hb : (kb == 0) = false) (OA : OpenN f ka s m e) (OB : OpenN g kb t n j) (bb : Bool) (HC : ∀ W, Calls Tryz.prog 59 #[.agg #[.int .i64 ka, .bool s, .int .u64 m, .int .i64 e], .agg #[.int .i64 kb, .bool t, .int .u64 n, .int .i64 j], .int .i64 f, .int .i64 g] W fun e w' => e = .returned (.bool bb) ∧ Ext W w') (bb2 : Bool) (HC2 : ∀ W, Calls Tryz.prog 59 #[.agg #[.int .i64 kb, .bool t, .int .u64 n, .int .i64 j], .agg #[.int .i64 ka, .bool s, .int .u64 m, .int .i64 e], .int .i64 g, .int .i64 f] W fun e w' => e = .returned (.bool bb2) ∧ Ext W w') (w : World) :
    Calls Tryz.prog 37 #[.int .i64 9, .int .i64 f, .int .i64 g] w fun e w' => e = .returned (.tuple #[.int .i64 (truthI bb), .int .i64 0]) ∧ Ext w w' := by
  have HA := Lib.hid OA
  have HB := Lib.hid OB
  have HH := Lib.hid HC
  have HH2 := Lib.hid HC2
  have HT := Lib.hid rtruth4
  clear HC HC2
  clear OA OB
  go_enter Tryz.func37, Tryz.ntmps37
  go_wp2_with fail
  refine (HA.out _).mono ?_
  rintro e' w1 ⟨rfl, hx1⟩
  go_wp2_with fail
  refine (HB.out _).mono ?_
  rintro e' w2 ⟨rfl, hx2⟩
  have q1 := (Q4.last (X := w1) (k := ka) (n := s) (m := m) (e := e) (t := 111)).ext hx2
  have a0 := q1.c0
  have a1 := q1.c1
  have a2 := q1.c2
  have a3 := q1.c3
  have fa := q1.f
  have la := q1.lt
  have HX := Lib.hid ((hx1.cells #[.int .i64 ka, .bool s, .int .u64 m, .int .i64 e] 111).trans hx2)
  clear q1 hx1 hx2 HA HB
  go_wp2_with fail
  refine (HH.out _).mono ?_
  rintro e' w3 ⟨rfl, hx3⟩
  go_wp2_with fail
  refine (HT.out _ _).mono ?_
  rintro e' w4 ⟨rfl, rfl⟩
  go_wp2_with fail
  go_ret2
  exact ⟨rfl, (HX.out.cells _ _).trans hx3⟩
set_option maxHeartbeats 4000000 in
set_option maxRecDepth 100000 in
theorem rtwo_equal (f g ka kb : Int) (s t : Bool) (m n : Int) (e j res : Int) (ha : (ka == 0) = false) (hb : (kb == 0) = false) (OA : OpenN f ka s m e) (OB : OpenN g kb t n j) (bb : Bool) (HC : ∀ W, Calls Tryz.prog 59 #[.agg #[.int .i64 ka, .bool s, .int .u64 m, .int .i64 e], .agg #[.int .i64 kb, .bool t, .int .u64 n, .int .i64 j], .int .i64 f, .int .i64 g] W fun e w' => e = .returned (.bool bb) ∧ Ext W w') (bb2 : Bool) (HC2 : ∀ W, Calls Tryz.prog 59 #[.agg #[.int .i64 kb, .bool t, .int .u64 n, .int .i64 j], .agg #[.int .i64 ka, .bool s, .int .u64 m, .int .i64 e], .int .i64 g, .int .i64 f] W fun e w' => e = .returned (.bool bb2) ∧ Ext W w') (w : World) :
    Calls Tryz.prog 37 #[.int .i64 10, .int .i64 f, .int .i64 g] w fun e w' => e = .returned (.tuple #[.int .i64 (truthI (!bb && !bb2)), .int .i64 0]) ∧ Ext w w' := by
  have HA := Lib.hid OA
  have HB := Lib.hid OB
  have HH := Lib.hid HC
  have HH2 := Lib.hid HC2
  have HT := Lib.hid rtruth4
  clear HC HC2
  clear OA OB
  go_enter Tryz.func37, Tryz.ntmps37
  go_wp2_with fail
  refine (HA.out _).mono ?_
  rintro e' w1 ⟨rfl, hx1⟩
  go_wp2_with fail
  refine (HB.out _).mono ?_
  rintro e' w2 ⟨rfl, hx2⟩
  have q1 := (Q4.last (X := w1) (k := ka) (n := s) (m := m) (e := e) (t := 111)).ext hx2
  have a0 := q1.c0
  have a1 := q1.c1
  have a2 := q1.c2
  have a3 := q1.c3
  have fa := q1.f
  have la := q1.lt
  have HX := Lib.hid ((hx1.cells #[.int .i64 ka, .bool s, .int .u64 m, .int .i64 e] 111).trans hx2)
  clear q1 hx1 hx2 HA HB
  go_wp2_with fail
  have q2 := (Q4.last (X := w2) (k := kb) (n := t) (m := n) (e := j) (t := 111))
  have q1 := (Q4.mk a0 a1 a2 a3 fa la).ext ((Ext.refl w2).cells #[.int .i64 kb, .bool t, .int .u64 n, .int .i64 j] 111)
  refine (HH.out _).mono ?_
  rintro e' w3 ⟨rfl, hx3⟩
  have q1 := q1.ext hx3
  have q2 := q2.ext hx3
  have HY := Lib.hid ((HX.out.cells #[.int .i64 kb, .bool t, .int .u64 n, .int .i64 j] 111).trans hx3)
  clear a0 a1 a2 a3 fa la hx3 HX
  have a0 := q1.c0
  have a1 := q1.c1
  have a2 := q1.c2
  have a3 := q1.c3
  have d0 := q2.c0
  have d1 := q2.c1
  have d2 := q2.c2
  have d3 := q2.c3
  clear q1 q2
  cases bb
  · go_wp2_with fail
    refine (HH2.out _).mono ?_
    rintro e' w4 ⟨rfl, hx4⟩
    go_wp2_with fail
    refine (HT.out _ _).mono ?_
    rintro e' w5 ⟨rfl, rfl⟩
    go_wp2_with fail
    go_ret2
    exact ⟨rfl, HY.out.trans hx4⟩
  · go_wp2_with fail
    refine (HT.out _ _).mono ?_
    rintro e' w5 ⟨rfl, rfl⟩
    go_wp2_with fail
    go_ret2
    exact ⟨rfl, HY.out⟩
set_option maxHeartbeats 4000000 in
set_option maxRecDepth 100000 in
theorem rtwo_none (op : Int) (hop : op = 3 ∨ op = 4 ∨ op = 5 ∨ op = 6 ∨ op = 7 ∨ op = 8) (f g ka kb : Int) (s t : Bool) (m n : Int) (e j : Int) (ha : (ka == 0) = true ∨ ((ka == 0) = false ∧ (kb == 0) = true)) (OA : OpenN f ka s m e) (OB : OpenN g kb t n j) (w : World) :
    Calls Tryz.prog 37 #[.int .i64 op, .int .i64 f, .int .i64 g] w fun e w' => e = .returned (.tuple #[.int .i64 9221120237041090560, .int .i64 0]) ∧ Ext w w' := by
  have HA := Lib.hid OA
  have HB := Lib.hid OB
  clear OA OB
  rcases hop with rfl | rfl | rfl | rfl | rfl | rfl <;> rcases ha with ha | ⟨ha, hb⟩ <;>
    (go_enter Tryz.func37, Tryz.ntmps37
     go_wp2_with fail
     refine (HA.out _).mono ?_
     rintro e' w1 ⟨rfl, hx1⟩
     go_wp2_with fail
     refine (HB.out _).mono ?_
     rintro e' w2 ⟨rfl, hx2⟩
     have q1 := (Q4.last (X := w1) (k := ka) (n := s) (m := m) (e := e) (t := 111)).ext hx2
     have a0 := q1.c0
     have la := q1.lt
     have HX := Lib.hid ((hx1.cells #[.int .i64 ka, .bool s, .int .u64 m, .int .i64 e] 111).trans hx2)
     clear q1 hx1 hx2
     go_wp2
     go_ret2
     exact ⟨rfl, HX.out.cells _ _⟩)
set_option maxHeartbeats 4000000 in
set_option maxRecDepth 100000 in
theorem rtwo_none0 (op : Int) (hop : op = 9 ∨ op = 10) (f g ka kb : Int) (s t : Bool) (m n : Int) (e j : Int) (ha : (ka == 0) = true ∨ ((ka == 0) = false ∧ (kb == 0) = true)) (OA : OpenN f ka s m e) (OB : OpenN g kb t n j) (w : World) :
    Calls Tryz.prog 37 #[.int .i64 op, .int .i64 f, .int .i64 g] w fun e w' => e = .returned (.tuple #[.int .i64 0, .int .i64 0]) ∧ Ext w w' := by
  have HA := Lib.hid OA
  have HB := Lib.hid OB
  have HT := Lib.hid rtruth4
  clear OA OB
  rcases hop with rfl | rfl <;> rcases ha with ha | ⟨ha, hb⟩ <;>
    (go_enter Tryz.func37, Tryz.ntmps37
     go_wp2_with fail
     refine (HA.out _).mono ?_
     rintro e' w1 ⟨rfl, hx1⟩
     go_wp2_with fail
     refine (HB.out _).mono ?_
     rintro e' w2 ⟨rfl, hx2⟩
     have q1 := (Q4.last (X := w1) (k := ka) (n := s) (m := m) (e := e) (t := 111)).ext hx2
     have a0 := q1.c0
     have la := q1.lt
     have HX := Lib.hid ((hx1.cells #[.int .i64 ka, .bool s, .int .u64 m, .int .i64 e] 111).trans hx2)
     clear q1 hx1 hx2
     go_wp2_with fail
     refine (HT.out _ _).mono ?_
     rintro e' w5 ⟨rfl, rfl⟩
     go_wp2_with fail
     go_ret2
     exact ⟨rfl, HX.out.cells _ _⟩)
end Go.Proofs.YtegcecpmdgljpaaGreatDoor

namespace Go.Proofs.YtegcecpmdgljpaaGreatDoor
open Go.RowKit
set_option linter.unusedVariables false
open Ieee

theorem nan_ops (x y : Nat) (h : isN x = true ∨ isN y = true) : double.add x y = none ∧ double.sub x y = none ∧ double.mul x y = none ∧ double.div x y = none ∧ double.order x y = none := by
  unfold isN at h
  unfold Format.add Format.sub Format.mul Format.div Format.order
  revert h
  cases double.read x <;> cases double.read y <;> simp [Datum.isNaN, Datum.sum, Datum.product, Datum.quotient, Datum.order, Datum.opposite]
theorem real_nan (m f g : Int) (hm : 3 ≤ m ∧ m ≤ 10) (h : isN (fbits f) = true ∨ isN (fbits g) = true) : realV m f g = if m ≤ 8 then 9221120237041090560 else 0 := by
  obtain ⟨h1, h2, h3, h4, h5⟩ := nan_ops _ _ h
  unfold realV minW maxW
  rw [h1, h2, h3, h4, h5]
  rcases (show m = 3 ∨ m = 4 ∨ m = 5 ∨ m = 6 ∨ m = 7 ∨ m = 8 ∨ m = 9 ∨ m = 10 by omega) with rfl | rfl | rfl | rfl | rfl | rfl | rfl | rfl <;> rfl
/-- The parts of a rung. -/
def kR (r : Nat) : Int := if r = 9218868437227405312 then 1 else 2
def mR (r : Nat) : Nat := if r = 9218868437227405312 then 0 else rM r
def eR (r : Nat) : Int := if r = 9218868437227405312 then 0 else rE r
theorem open_parts (f : Int) (hf : I64 f) (s : Bool) (r : Nat) (hr : r ≤ 9218868437227405312) (hx : fbits f = double.word s r) : OpenN f (kR r) s (mR r : Int) (eR r) := fun W => by
  unfold kR mR eR
  by_cases h : r = 9218868437227405312
  · rw [if_pos h, if_pos h, if_pos h]
    subst h
    exact ropen_winf f hf s hx W
  · rw [if_neg h, if_neg h, if_neg h]
    exact ropen_word f hf s r hx (by omega) W
theorem kR_cases (r : Nat) (hr : r ≤ 9218868437227405312) : (r = 9218868437227405312 ∧ kR r = 1 ∧ mR r = 0) ∨ (r < 9218868437227405312 ∧ kR r = 2 ∧ mR r = rM r ∧ eR r = rE r ∧ Can (rM r) (rE r)) := by
  unfold kR mR eR
  by_cases h : r = 9218868437227405312
  · left; exact ⟨h, if_pos h, if_pos h⟩
  · right; exact ⟨by omega, if_neg h, if_neg h, if_neg h, rung_can (by omega)⟩
theorem kR_12 (r : Nat) : kR r = 1 ∨ kR r = 2 := by unfold kR; split <;> simp
theorem kR_0 (r : Nat) : (kR r == 0) = false := by rcases kR_12 r with h | h <;> rw [h] <;> rfl
theorem zero_is (r q : Nat) (hr : r ≤ 9218868437227405312) (hq : q ≤ 9218868437227405312) : (kR r = 2 ∧ kR q = 2 ∧ mR r = 0 ∧ mR q = 0) ↔ (r = 0 ∧ q = 0) := by
  have z : ∀ r, r ≤ 9218868437227405312 → ((kR r = 2 ∧ mR r = 0) ↔ r = 0) := fun r hr => by
    rcases kR_cases r hr with ⟨rfl, h1, _⟩ | ⟨h, h1, h2, _⟩
    · rw [h1]; simp
    · rw [h1, h2]
      exact ⟨fun k => rM_zero k.2 h, fun k => ⟨rfl, by rw [k]; simp [rM]⟩⟩
  have a := z r hr
  have b := z q hq
  constructor
  · rintro ⟨h1, h2, h3, h4⟩; exact ⟨a.1 ⟨h1, h3⟩, b.1 ⟨h2, h4⟩⟩
  · rintro ⟨h1, h2⟩
    exact ⟨(a.2 h1).1, (b.2 h2).1, (a.2 h1).2, (b.2 h2).2⟩
section
variable {f g : Int} {s t : Bool} {r q : Nat}
theorem below_parts (hf : I64 f) (hg : I64 g) (hr : r ≤ 9218868437227405312) (hq : q ≤ 9218868437227405312) (hx : fbits f = double.word s r) (hy : fbits g = double.word t q) (W : World) :
    Calls Tryz.prog 59 #[prt (kR r) s (mR r) (eR r), prt (kR q) t (mR q) (eR q), .int .i64 f, .int .i64 g] W fun e w' => e = .returned (.bool (decide (keyW s r < keyW t q))) ∧ Ext W w' := by
  have h := rbelow4 (kR r) (kR q) (kR_12 r) (kR_12 q) s t (mR r) (mR q) (eR r) (eR q) f g _ rfl W
  have e : belowP (decide (kR r = 2 ∧ kR q = 2 ∧ mR r = 0 ∧ mR q = 0)) s t f g = decide (keyW s r < keyW t q) := by
    rw [← below_is]
    have kf := cell_key f hf s r hr hx
    have kg := cell_key g hg t q hq hy
    unfold belowP belowV
    by_cases z : r = 0 ∧ q = 0
    · rw [if_pos z, decide_eq_true ((zero_is r q hr hq).2 z), if_pos rfl]
    · rw [if_neg z, decide_eq_false (fun k => z ((zero_is r q hr hq).1 k)), if_neg Bool.false_ne_true]
      cases s <;> cases t <;> simp at kf kg <;> subst kf kg <;> simp <;> omega
  rw [e] at h
  exact h
theorem real_order (hx : fbits f = double.word s r) (hy : fbits g = double.word t q) (hr : r ≤ 9218868437227405312) (hq : q ≤ 9218868437227405312) : double.order (fbits f) (fbits g) = some (compare (keyW s r) (keyW t q)) := by
  rw [hx, hy]; exact order_words s t r q hr hq
theorem real_less (hf : I64 f) (hg : I64 g) (hr : r ≤ 9218868437227405312) (hq : q ≤ 9218868437227405312) (hx : fbits f = double.word s r) (hy : fbits g = double.word t q) (w : World) :
    Calls Tryz.prog 37 #[.int .i64 9, .int .i64 f, .int .i64 g] w fun e w' => e = .returned (.tuple #[.int .i64 (realV 9 f g), .int .i64 0]) ∧ Ext w w' := by
  have e : realV 9 f g = truthI (decide (keyW s r < keyW t q)) := by
    show truthI (double.order (fbits f) (fbits g) == some .lt) = _
    rw [real_order hx hy hr hq, cmp_lt]
  rw [e]
  exact rtwo_less f g (kR r) (kR q) s t (mR r) (mR q) (eR r) (eR q) 0 (kR_0 r) (kR_0 q) (open_parts f hf s r hr hx) (open_parts g hg t q hq hy) _ (below_parts hf hg hr hq hx hy) _ (below_parts hg hf hq hr hy hx) w
theorem real_equal (hf : I64 f) (hg : I64 g) (hr : r ≤ 9218868437227405312) (hq : q ≤ 9218868437227405312) (hx : fbits f = double.word s r) (hy : fbits g = double.word t q) (w : World) :
    Calls Tryz.prog 37 #[.int .i64 10, .int .i64 f, .int .i64 g] w fun e w' => e = .returned (.tuple #[.int .i64 (realV 10 f g), .int .i64 0]) ∧ Ext w w' := by
  have e : realV 10 f g = truthI (!decide (keyW s r < keyW t q) && !decide (keyW t q < keyW s r)) := by
    show truthI (double.order (fbits f) (fbits g) == some .eq) = _
    rw [real_order hx hy hr hq, cmp_eq]
  rw [e]
  exact rtwo_equal f g (kR r) (kR q) s t (mR r) (mR q) (eR r) (eR q) 0 (kR_0 r) (kR_0 q) (open_parts f hf s r hr hx) (open_parts g hg t q hq hy) _ (below_parts hf hg hr hq hx hy) _ (below_parts hg hf hq hr hy hx) w
theorem lesser_parts (hf : I64 f) (hg : I64 g) (hr : r ≤ 9218868437227405312) (hq : q ≤ 9218868437227405312) (hx : fbits f = double.word s r) (hy : fbits g = double.word t q) (mn : Bool) (W : World) :
    Calls Tryz.prog 63 #[prt (kR r) s (mR r) (eR r), prt (kR q) t (mR q) (eR q), .int .i64 f, .int .i64 g, .bool mn] W fun e w' => e = .returned (.int .i64 (if r = 0 ∧ q = 0 then cellOf (double.word (mn && (s || t) || s && t) 0) else if decide (keyW s r < keyW t q) = mn then f else g)) ∧ Ext W w' := by
  by_cases z : r = 0 ∧ q = 0
  · rw [if_pos z]
    obtain ⟨a1, a2, a3, a4⟩ := (zero_is r q hr hq).2 z
    rw [a1, a2, a3, a4]
    exact rlesser_z s t mn _ _ f g W
  · rw [if_neg z]
    refine rlesser_n (kR r) (kR q) s t (mR r) (mR q) (eR r) (eR q) f g mn _ ?_ (below_parts hf hg hr hq hx hy) W
    have hz := fun k => z ((zero_is r q hr hq).1 k)
    rcases kR_12 r with h1 | h1 <;> rcases kR_12 q with h2 | h2
    · left; exact ⟨h1, h2⟩
    · right; left; exact ⟨h1, h2⟩
    · right; right; left; exact ⟨h1, h2⟩
    · by_cases h3 : mR r = 0
      · by_cases h4 : mR q = 0
        · exact absurd ⟨h1, h2, h3, h4⟩ hz
        · right; right; right; right; exact ⟨h1, h2, by rw [h3]; rfl, beq_eq_false_iff_ne.2 (by omega)⟩
      · right; right; right; left; exact ⟨h1, h2, beq_eq_false_iff_ne.2 (by omega)⟩
theorem key_inj (h : keyW s r = keyW t q) (z : ¬ (r = 0 ∧ q = 0)) : s = t ∧ r = q := by
  unfold keyW at h
  cases s <;> cases t <;> simp at h ⊢ <;> omega
theorem neg_word13 (s : Bool) (r : Nat) (hr : r ≤ 9218868437227405312) : (double.read (double.word s r)).neg = s := by
  by_cases h : r = 9218868437227405312
  · subst h; rw [read_inf]; rfl
  · rw [read_fin s (by omega)]; rfl
theorem real_lesser (hf : I64 f) (hg : I64 g) (hr : r ≤ 9218868437227405312) (hq : q ≤ 9218868437227405312) (hx : fbits f = double.word s r) (hy : fbits g = double.word t q) : (if r = 0 ∧ q = 0 then cellOf (double.word (true && (s || t) || s && t) 0) else if decide (keyW s r < keyW t q) = true then f else g) = resOf (minW (fbits f) (fbits g)) ∧ (if r = 0 ∧ q = 0 then cellOf (double.word (false && (s || t) || s && t) 0) else if decide (keyW s r < keyW t q) = false then f else g) = resOf (maxW (fbits f) (fbits g)) := by
  have cf : cellOf (fbits f) = f := cell_fbits hf (by rw [hx]; exact isN_word s hr)
  have cg : cellOf (fbits g) = g := cell_fbits hg (by rw [hy]; exact isN_word t hq)
  have ho := real_order hx hy hr hq
  unfold minW maxW
  rw [ho]
  by_cases z : r = 0 ∧ q = 0
  · obtain ⟨rfl, rfl⟩ := z
    have hk : compare (keyW s 0) (keyW t 0) = .eq := by cases s <;> cases t <;> rfl
    have hz : (0 : Nat) = 0 ∧ (0 : Nat) = 0 := ⟨rfl, rfl⟩
    rw [hk, if_pos hz, if_pos hz, hx, hy, neg_word13 s 0 hr]
    cases s <;> cases t <;> exact ⟨rfl, rfl⟩
  · rw [if_neg z, if_neg z]
    rcases Int.lt_trichotomy (keyW s r) (keyW t q) with h | h | h
    · rw [Int.compare_eq_lt.2 h, decide_eq_true h]
      exact ⟨cf.symm, cg.symm⟩
    · obtain ⟨h1, h2⟩ := key_inj h z
      have hfg : fbits f = fbits g := by rw [hx, hy, h1, h2]
      have hc : f = g := by rw [← cf, ← cg, hfg]
      have hn : ¬ keyW s r < keyW t q := by omega
      have hk : compare (keyW s r) (keyW t q) = .eq := by rw [h]; simp [compare, compareOfLessAndEq]
      rw [hk, decide_eq_false hn, ← hfg]
      have e1 : (if (double.read (fbits f)).neg = true then fbits f else fbits f) = fbits f := ite_self _
      constructor
      · show g = cellOf (if (double.read (fbits f)).neg = true then fbits f else fbits f)
        rw [e1, cf]; exact hc.symm
      · show f = cellOf (if (double.read (fbits f)).neg = true then fbits f else fbits f)
        rw [e1, cf]
    · have hn : ¬ keyW s r < keyW t q := by omega
      rw [Int.compare_eq_gt.2 h, decide_eq_false hn]
      exact ⟨cg.symm, cf.symm⟩
theorem sum_if (x : Bool) : double.write (Datum.infinity x) = double.word x 9218868437227405312 := by show double.word x double.infRung = _; rw [d_inf]
/-- Sums, whatever both are; the second one's sign given. -/
theorem sum_parts (hr : r ≤ 9218868437227405312) (hq : q ≤ 9218868437227405312) (t' : Bool) (res : Int) (hres : res = resOf (((double.read (double.word s r)).sum (double.read (double.word t' q))).map double.write)) (W : World) :
    Calls Tryz.prog 60 #[prtg (kR r) s (mR r) (eR r), prtg (kR q) t' (mR q) (eR q)] W fun e w' => e = .returned (.int .i64 res) ∧ Ext W w' := by
  rcases kR_cases r hr with ⟨h1, k1, m1⟩ | ⟨h1, k1, m1, e1, c1⟩ <;> rcases kR_cases q hq with ⟨h2, k2, m2⟩ | ⟨h2, k2, m2, e2, c2⟩
  · rw [h1, h2, read_inf, read_inf] at hres
    rw [k1, k2, hres]
    have := rsum_ii s t' (mR r) (eR r) (mR q) (eR q) W
    have e : (if s = t' then cellOf (double.word s 9218868437227405312) else 9221120237041090560) = resOf (((Datum.infinity s).sum (.infinity t')).map double.write) := by
      by_cases h : s = t'
      · simp only [Datum.sum, if_pos h, Option.map_some, sum_if]; rfl
      · simp only [Datum.sum, if_neg h]; rfl
    rw [e] at this
    exact this
  · rw [h1, read_inf, read_fin t' h2] at hres
    rw [k1, k2, hres]
    have := rsum_if s (mR r) (eR r) t' (mR q) (eR q) W
    rw [← sum_if s] at this
    exact this
  · rw [h2, read_inf, read_fin s h1] at hres
    rw [k1, k2, hres]
    have := rsum_fi s (mR r) (eR r) t' (mR q) (eR q) W
    rw [← sum_if t'] at this
    exact this
  · rw [read_fin s h1, read_fin t' h2, sum_write] at hres
    rw [k1, k2, hres, m1, m2, e1, e2]
    exact rsum_ff s (rM r) (rE r) t' (rM q) (rE q) _ (fun W => radd4 s (rM r) (rE r) t' (rM q) (rE q) c1.lt c2.lt c1.lo c1.hi c2.lo c2.hi c1.top c2.top W) W
theorem prod_parts (hr : r ≤ 9218868437227405312) (hq : q ≤ 9218868437227405312) (W : World) :
    Calls Tryz.prog 61 #[prtg (kR r) s (mR r) (eR r), prtg (kR q) t (mR q) (eR q)] W fun e w' => e = .returned (.int .i64 (resOf (double.mul (double.word s r) (double.word t q)))) ∧ Ext W w' := by
  unfold Format.mul
  rcases kR_cases r hr with ⟨h1, k1, m1⟩ | ⟨h1, k1, m1, e1, c1⟩ <;> rcases kR_cases q hq with ⟨h2, k2, m2⟩ | ⟨h2, k2, m2, e2, c2⟩
  · rw [h1, h2, read_inf, read_inf]
    have := rprod_i (kR r) (kR q) (Or.inl ⟨by rw [h1]; rfl, by rw [h2]; rfl⟩) s t (mR r) (eR r) (mR q) (eR q) false (by rw [k1, k2]; simp) W
    rw [h1, h2] at this
    unfold prodR at this
    rw [if_neg Bool.false_ne_true, ← sum_if] at this
    exact this
  · rw [h1, read_inf, read_fin t h2]
    rw [h1] at k1 m1
    have := rprod_i 1 2 (Or.inr (Or.inl ⟨rfl, rfl⟩)) s t (mR 9218868437227405312) (eR 9218868437227405312) (mR q) (eR q) (decide (rM q = 0)) (by rw [m2]; simp) W
    rw [k1, k2]
    have e : prodR (decide (rM q = 0)) (s ^^ t) = resOf (((Datum.infinity s).product (.number t (rM q) (rE q))).map double.write) := by
      unfold prodR
      by_cases h : rM q = 0
      · simp only [Datum.product, if_pos h, decide_eq_true h, if_true]; rfl
      · simp only [Datum.product, if_neg h, decide_eq_false h, Bool.false_eq_true, if_false, Option.map_some, sum_if]; rfl
    rw [e] at this
    exact this
  · rw [h2, read_inf, read_fin s h1]
    rw [h2] at k2 m2
    have := rprod_i 2 1 (Or.inr (Or.inr ⟨rfl, rfl⟩)) s t (mR r) (eR r) (mR 9218868437227405312) (eR 9218868437227405312) (decide (rM r = 0)) (by rw [m1]; simp) W
    rw [k1, k2]
    have e : prodR (decide (rM r = 0)) (s ^^ t) = resOf (((Datum.number s (rM r) (rE r)).product (.infinity t)).map double.write) := by
      unfold prodR
      by_cases h : rM r = 0
      · simp only [Datum.product, if_pos h, decide_eq_true h, if_true]; rfl
      · simp only [Datum.product, if_neg h, decide_eq_false h, Bool.false_eq_true, if_false, Option.map_some, sum_if, Bool.xor_comm t s]; rfl
    rw [e] at this
    exact this
  · rw [read_fin s h1, read_fin t h2, k1, k2, m1, m2, e1, e2]
    exact rprod_f s (rM r) (rE r) t (rM q) (rE q) c1.lt c2.lt c1.lo c1.hi c2.lo c2.hi W
theorem quo_parts (hr : r ≤ 9218868437227405312) (hq : q ≤ 9218868437227405312) (W : World) :
    Calls Tryz.prog 62 #[prtg (kR r) s (mR r) (eR r), prtg (kR q) t (mR q) (eR q)] W fun e w' => e = .returned (.int .i64 (resOf (double.div (double.word s r) (double.word t q)))) ∧ Ext W w' := by
  unfold Format.div
  have hfr : double.fractionBits + 2 = 54 := rfl
  rw [hfr]
  have quo_z : ∀ z i x, quoR z i x = if z then 9221120237041090560 else if i then cellOf (double.word x 9218868437227405312) else cellOf (double.word x 0) := fun _ _ _ => rfl
  rcases kR_cases r hr with ⟨h1, k1, m1⟩ | ⟨h1, k1, m1, e1, c1⟩ <;> rcases kR_cases q hq with ⟨h2, k2, m2⟩ | ⟨h2, k2, m2, e2, c2⟩
  · rw [h1, h2, read_inf, read_inf]
    rw [h1] at k1
    rw [k1]
    exact rquo_i 1 1 s t _ _ _ _ true true (Or.inl ⟨rfl, rfl, rfl⟩) W
  · rw [h1, read_inf, read_fin t h2]
    rw [h1] at k1
    rw [k1, k2]
    have e : quoR false true (s ^^ t) = resOf (((Datum.infinity s).quotient 54 (.number t (rM q) (rE q))).map double.write) := by
      rw [quo_z]
      simp only [Datum.quotient, Bool.false_eq_true, if_false, if_true, Option.map_some, sum_if]; rfl
    rw [← e]
    by_cases h : mR q = 0
    · exact rquo_i 1 2 s t _ _ _ _ false true (Or.inr (Or.inl ⟨rfl, rfl, by rw [h]; rfl, rfl, rfl⟩)) W
    · exact rquo_i 1 2 s t _ _ _ _ false true (Or.inr (Or.inr (Or.inl ⟨rfl, rfl, beq_eq_false_iff_ne.2 (by omega), rfl, rfl⟩))) W
  · rw [h2, read_inf, read_fin s h1]
    rw [h2] at k2
    rw [k1, k2]
    have e : quoR false false (s ^^ t) = resOf (((Datum.number s (rM r) (rE r)).quotient 54 (.infinity t)).map double.write) := by
      rw [quo_z]
      simp only [Datum.quotient, Bool.false_eq_true, if_false, Option.map_some]
      show _ = cellOf (double.nearest (s ^^ t) 0 0)
      rw [nearest_zero]
    rw [← e]
    exact rquo_i 2 1 s t _ _ _ _ false false (Or.inr (Or.inr (Or.inr (Or.inl ⟨rfl, rfl, rfl, rfl⟩)))) W
  · rw [read_fin s h1, read_fin t h2, k1, k2, m1, m2, e1, e2]
    by_cases hn : rM q = 0
    · by_cases hm : rM r = 0
      · have := rquo_i 2 2 s t (rM r) (rE r) (rM q) (rE q) true true (Or.inr (Or.inr (Or.inr (Or.inr (Or.inl ⟨rfl, rfl, by rw [hn]; rfl, by rw [hm]; rfl, rfl⟩))))) W
        have e : quoR true true (s ^^ t) = resOf (((Datum.number s (rM r) (rE r)).quotient 54 (.number t (rM q) (rE q))).map double.write) := by
          rw [quo_z]
          simp only [Datum.quotient, if_pos hn, if_pos hm, if_true]; rfl
        rw [e] at this
        exact this
      · have := rquo_i 2 2 s t (rM r) (rE r) (rM q) (rE q) false true (Or.inr (Or.inr (Or.inr (Or.inr (Or.inr ⟨rfl, rfl, by rw [hn]; rfl, beq_eq_false_iff_ne.2 (by omega), rfl, rfl⟩))))) W
        have e : quoR false true (s ^^ t) = resOf (((Datum.number s (rM r) (rE r)).quotient 54 (.number t (rM q) (rE q))).map double.write) := by
          rw [quo_z]
          simp only [Datum.quotient, if_pos hn, if_neg hm, Bool.false_eq_true, if_false, if_true, Option.map_some, sum_if]; rfl
        rw [e] at this
        exact this
    · rw [quot_write s (rM r) (rE r) t (rM q) (rE q) hn]
      exact rquo_f s (rM r) (rE r) t (rM q) (rE q) c1.lt c2.lt hn c1.lo c1.hi c2.lo c2.hi W
end
theorem read_opp2 (t : Bool) (q : Nat) (hq : q ≤ 9218868437227405312) : (double.read (double.word t q)).opposite = double.read (double.word (!t) q) := by
  by_cases h : q = 9218868437227405312
  · subst h; rw [read_inf, read_inf]; rfl
  · rw [read_fin t (by omega), read_fin (!t) (by omega)]; rfl
/-- The document's answer is the program's. -/
theorem real4 (m f g : Int) (hm : 3 ≤ m ∧ m ≤ 10) (hf : I64 f) (hg : I64 g) (w : World) :
    Calls Tryz.prog 37 #[.int .i64 m, .int .i64 f, .int .i64 g] w fun e w' => e = .returned (.tuple #[.int .i64 (realV m f g), .int .i64 0]) ∧ Ext w w' := by
  rcases fbits_split f with nf | ⟨s, r, hx, hr⟩
  · obtain ⟨s1, m1, o1⟩ := ropen_wnan f hf nf
    rw [real_nan m f g hm (Or.inl nf)]
    have ob : ∃ kb t n j, OpenN g kb t n j := by
      rcases fbits_split g with ng | ⟨t, q, hy, hq⟩
      · obtain ⟨s2, m2, o2⟩ := ropen_wnan g hg ng
        exact ⟨0, s2, m2, 0, o2⟩
      · exact ⟨_, _, _, _, open_parts g hg t q hq hy⟩
    obtain ⟨kb, t, n, j, ob⟩ := ob
    by_cases h : m ≤ 8
    · rw [if_pos h]
      exact rtwo_none m (by omega) f g 0 kb s1 t m1 n 0 j (Or.inl rfl) o1 ob w
    · rw [if_neg h]
      exact rtwo_none0 m (by omega) f g 0 kb s1 t m1 n 0 j (Or.inl rfl) o1 ob w
  · rcases fbits_split g with ng | ⟨t, q, hy, hq⟩
    · obtain ⟨s2, m2, o2⟩ := ropen_wnan g hg ng
      rw [real_nan m f g hm (Or.inr ng)]
      by_cases h : m ≤ 8
      · rw [if_pos h]
        exact rtwo_none m (by omega) f g (kR r) 0 s s2 _ m2 _ 0 (Or.inr ⟨kR_0 r, rfl⟩) (open_parts f hf s r hr hx) o2 w
      · rw [if_neg h]
        exact rtwo_none0 m (by omega) f g (kR r) 0 s s2 _ m2 _ 0 (Or.inr ⟨kR_0 r, rfl⟩) (open_parts f hf s r hr hx) o2 w
    · have oa := open_parts f hf s r hr hx
      have ob := open_parts g hg t q hq hy
      rcases (show m = 3 ∨ m = 4 ∨ m = 5 ∨ m = 6 ∨ m = 7 ∨ m = 8 ∨ m = 9 ∨ m = 10 by omega) with rfl | rfl | rfl | rfl | rfl | rfl | rfl | rfl
      · exact rtwo_add f g _ _ s t _ _ _ _ _ (kR_0 r) (kR_0 q) oa ob (fun W => sum_parts hr hq t _ (by show resOf (double.add (fbits f) (fbits g)) = _; rw [hx, hy]; rfl) W) w
      · exact rtwo_sub f g _ _ s t _ _ _ _ _ (kR_0 r) (kR_0 q) oa ob (fun W => sum_parts hr hq (!t) _ (by show resOf (double.sub (fbits f) (fbits g)) = _; rw [hx, hy]; unfold Format.sub; rw [read_opp2 t q hq]) W) w
      · have e : realV 5 f g = resOf (double.mul (double.word s r) (double.word t q)) := by show resOf (double.mul (fbits f) (fbits g)) = _; rw [hx, hy]
        rw [e]
        exact rtwo_mul f g _ _ s t _ _ _ _ _ (kR_0 r) (kR_0 q) oa ob (fun W => prod_parts hr hq W) w
      · have e : realV 6 f g = resOf (double.div (double.word s r) (double.word t q)) := by show resOf (double.div (fbits f) (fbits g)) = _; rw [hx, hy]
        rw [e]
        exact rtwo_div f g _ _ s t _ _ _ _ _ (kR_0 r) (kR_0 q) oa ob (fun W => quo_parts hr hq W) w
      · have e : realV 7 f g = resOf (minW (fbits f) (fbits g)) := rfl
        rw [e, ← (real_lesser hf hg hr hq hx hy).1]
        exact rtwo_min f g _ _ s t _ _ _ _ _ (kR_0 r) (kR_0 q) oa ob (fun W => lesser_parts hf hg hr hq hx hy true W) w
      · have e : realV 8 f g = resOf (maxW (fbits f) (fbits g)) := rfl
        rw [e, ← (real_lesser hf hg hr hq hx hy).2]
        exact rtwo_max f g _ _ s t _ _ _ _ _ (kR_0 r) (kR_0 q) oa ob (fun W => lesser_parts hf hg hr hq hx hy false W) w
      · exact real_less hf hg hr hq hx hy w
      · exact real_equal hf hg hr hq hx hy w
end Go.Proofs.YtegcecpmdgljpaaGreatDoor
