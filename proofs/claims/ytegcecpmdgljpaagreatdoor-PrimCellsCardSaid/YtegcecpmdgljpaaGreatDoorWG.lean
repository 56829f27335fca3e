/- The document's products and sums of any two real numbers. Condition: the parts are of the format. -/
import Derived.Test.YtegcecpmdgljpaaGreatDoorWD
namespace Go.Proofs.YtegcecpmdgljpaaGreatDoor
open Go.RowKit
set_option linter.unusedVariables false
open Ieee (double)

abbrev prtg (k : Int) (s : Bool) (m : Nat) (e : Int) : Value := .agg #[.int .i64 k, .bool s, .int .u64 (m : Int), .int .i64 e]
def InfN (s : Bool) (res : Int) : Prop := ∀ W, Calls Tryz.prog 80 #[.bool s] W fun e w' => e = .returned (.int .i64 res) ∧ W = w'
set_option maxHeartbeats 4000000 in
set_option maxRecDepth 100000 in
theorem rsum_ff (s : Bool) (m : Nat) (e : Int) (t : Bool) (n : Nat) (j : Int) (res : Int) (H : ∀ W, Calls Tryz.prog 81 #[prtg 2 s m e, prtg 2 t n j] W fun e w' => e = .returned (.int .i64 res) ∧ Ext W w') (w : World) :
    Calls Tryz.prog 60 #[prtg 2 s m e, prtg 2 t n j] w fun e w' => e = .returned (.int .i64 res) ∧ Ext w w' := by
  have X : ∀ a b : Array Value, Ext w ((w.alloc (.cells a 111)).alloc (.cells b 111)) := fun a b => ((Ext.refl w).cells _ _).cells _ _
  have HX := Lib.hid X
  have HH := Lib.hid H
  clear X H
  go_enter Tryz.func60, Tryz.ntmps60
  go_wp2_with fail
  refine (HH.out _).mono ?_
  rintro e' w' ⟨rfl, hx⟩
  go_wp2_with fail
  go_ret
  exact ⟨rfl, (HX.out _ _).trans hx⟩
set_option maxHeartbeats 4000000 in
set_option maxRecDepth 100000 in
theorem rsum_if (s : Bool) (m : Nat) (e : Int) (t : Bool) (n : Nat) (j : Int) (w : World) :
    Calls Tryz.prog 60 #[prtg 1 s m e, prtg 2 t n j] w fun e w' => e = .returned (.int .i64 (cellOf (double.word s 9218868437227405312))) ∧ Ext w w' := by
  have X : ∀ a b : Array Value, Ext w ((w.alloc (.cells a 111)).alloc (.cells b 111)) := fun a b => ((Ext.refl w).cells _ _).cells _ _
  have HX := Lib.hid X
  have HH := Lib.hid (rinf4 s)
  generalize cellOf (double.word s 9218868437227405312) = res at *
  clear X
  go_enter Tryz.func60, Tryz.ntmps60
  go_wp2_with fail
  refine (HH.out _).mono ?_
  rintro e' w' ⟨rfl, rfl⟩
  go_wp2_with fail
  go_ret
  exact ⟨rfl, HX.out _ _⟩
set_option maxHeartbeats 4000000 in
set_option maxRecDepth 100000 in
theorem rsum_fi (s : Bool) (m : Nat) (e : Int) (t : Bool) (n : Nat) (j : Int) (w : World) :
    Calls Tryz.prog 60 #[prtg 2 s m e, prtg 1 t n j] w fun e w' => e = .returned (.int .i64 (cellOf (double.word t 9218868437227405312))) ∧ Ext w w' := by
  have X : ∀ a b : Array Value, Ext w ((w.alloc (.cells a 111)).alloc (.cells b 111)) := fun a b => ((Ext.refl w).cells _ _).cells _ _
  have HX := Lib.hid X
  have HH := Lib.hid (rinf4 t)
  generalize cellOf (double.word t 9218868437227405312) = res at *
  clear X
  go_enter Tryz.func60, Tryz.ntmps60
  go_wp2_with fail
  refine (HH.out _).mono ?_
  rintro e' w' ⟨rfl, rfl⟩
  go_wp2_with fail
  go_ret
  exact ⟨rfl, HX.out _ _⟩
set_option maxHeartbeats 4000000 in
set_option maxRecDepth 100000 in
theorem rsum_ii (s t : Bool) (m : Nat) (e : Int) (n : Nat) (j : Int) (w : World) :
    Calls Tryz.prog 60 #[prtg 1 s m e, prtg 1 t n j] w fun e w' => e = .returned (.int .i64 (if s = t then cellOf (double.word s 9218868437227405312) else 9221120237041090560)) ∧ Ext w w' := by
  have X : ∀ a b : Array Value, Ext w ((w.alloc (.cells a 111)).alloc (.cells b 111)) := fun a b => ((Ext.refl w).cells _ _).cells _ _
  have HX := Lib.hid X
  have HH := Lib.hid (rinf4 s)
  generalize cellOf (double.word s 9218868437227405312) = res at *
  clear X
  cases s <;> cases t
  · go_enter Tryz.func60, Tryz.ntmps60
    go_wp2_with fail
    refine (HH.out _).mono ?_
    rintro e' w' ⟨rfl, rfl⟩
    go_wp2_with fail
    go_ret
    exact ⟨rfl, HX.out _ _⟩
  · go_enter Tryz.func60, Tryz.ntmps60
    go_wp2
    go_ret
    exact ⟨rfl, HX.out _ _⟩
  · go_enter Tryz.func60, Tryz.ntmps60
    go_wp2
    go_ret
    exact ⟨rfl, HX.out _ _⟩
  · go_enter Tryz.func60, Tryz.ntmps60
    go_wp2_with fail
    refine (HH.out _).mono ?_
    rintro e' w' ⟨rfl, rfl⟩
    go_wp2_with fail
    go_ret
    exact ⟨rfl, HX.out _ _⟩
/-- Products: with one that has no end. -/
def prodR (z x : Bool) : Int := if z then 9221120237041090560 else cellOf (double.word x 9218868437227405312)
set_option maxHeartbeats 4000000 in
set_option maxRecDepth 100000 in
theorem rprod_i (ka kb : Int) (hk : (ka = 1 ∧ kb = 1) ∨ (ka = 1 ∧ kb = 2) ∨ (ka = 2 ∧ kb = 1)) (s t : Bool) (m : Nat) (e : Int) (n : Nat) (j : Int) (z : Bool) (hz : decide (ka = 2 ∧ m = 0 ∨ kb = 2 ∧ n = 0) = z) (w : World) :
    Calls Tryz.prog 61 #[prtg ka s m e, prtg kb t n j] w fun e w' => e = .returned (.int .i64 (prodR z (s ^^ t))) ∧ Ext w w' := by
  have X : ∀ a b : Array Value, Ext w ((w.alloc (.cells a 111)).alloc (.cells b 111)) := fun a b => ((Ext.refl w).cells _ _).cells _ _
  have HX := Lib.hid X
  have HF := Lib.hid (rinf4 false)
  have HT := Lib.hid (rinf4 true)
  have ef : prodR false false = cellOf (double.word false 9218868437227405312) := if_neg Bool.false_ne_true
  have et : prodR false true = cellOf (double.word true 9218868437227405312) := if_neg Bool.false_ne_true
  rw [← ef] at HF
  rw [← et] at HT
  have key : (ka = 1 ∧ kb = 1 ∧ z = false) ∨ (ka = 1 ∧ kb = 2 ∧ ((n : Int) == 0) = true ∧ z = true) ∨ (ka = 1 ∧ kb = 2 ∧ ((n : Int) == 0) = false ∧ z = false) ∨ (ka = 2 ∧ kb = 1 ∧ ((m : Int) == 0) = true ∧ z = true) ∨ (ka = 2 ∧ kb = 1 ∧ ((m : Int) == 0) = false ∧ z = false) := by
    rcases hk with ⟨rfl, rfl⟩ | ⟨rfl, rfl⟩ | ⟨rfl, rfl⟩
    · left; exact ⟨rfl, rfl, by rw [← hz]; simp⟩
    · by_cases h : n = 0
      · right; left; subst h; exact ⟨rfl, rfl, rfl, by rw [← hz]; simp⟩
      · right; right; left; exact ⟨rfl, rfl, beq_eq_false_iff_ne.2 (by omega), by rw [← hz]; simp [h]⟩
    · by_cases h : m = 0
      · right; right; right; left; subst h; exact ⟨rfl, rfl, rfl, by rw [← hz]; simp⟩
      · right; right; right; right; exact ⟨rfl, rfl, beq_eq_false_iff_ne.2 (by omega), by rw [← hz]; simp [h]⟩
  clear X hk hz ef et
  rcases key with ⟨rfl, rfl, rfl⟩ | ⟨rfl, rfl, hn, rfl⟩ | ⟨rfl, rfl, hn, rfl⟩ | ⟨rfl, rfl, hm, rfl⟩ | ⟨rfl, rfl, hm, rfl⟩ <;> cases s <;> cases t <;>
    (go_enter Tryz.func61, Tryz.ntmps61
     go_wp2_with (first | ((with_reducible refine (HF.out _).mono ?_); rintro e' w' ⟨rfl, rfl⟩) | ((with_reducible refine (HT.out _).mono ?_); rintro e' w' ⟨rfl, rfl⟩))
     go_ret
     exact ⟨rfl, HX.out _ _⟩)
set_option maxHeartbeats 4000000 in
set_option maxRecDepth 100000 in
theorem rprod_f (s : Bool) (m : Nat) (e1 : Int) (t : Bool) (n : Nat) (e2 : Int) (hm : m < 9007199254740992) (hn : n < 9007199254740992) (l1 : -1074 ≤ e1) (u1 : e1 ≤ 971) (l2 : -1074 ≤ e2) (u2 : e2 ≤ 971) (w : World) :
    Calls Tryz.prog 61 #[prtg 2 s m e1, prtg 2 t n e2] w fun e w' => e = .returned (.int .i64 (cellOf (double.nearest (s ^^ t) (m * n) (e1 + e2)))) ∧ Ext w w' := by
  have hmn : m * n < 42535295865117307932921825928971026432 := by
    have : m * n ≤ 9007199254740992 * 9007199254740992 := Nat.mul_le_mul (by omega) (by omega)
    omega
  have hrn := rnd_exact (s ^^ t) (m * n) hmn (e1 + e2) (by omega)
  have hum : ∀ W, Calls Tryz.prog 83 #[.int .i64 (m : Int), .int .i64 (n : Int)] W fun e w' => e = .returned (.agg #[.int .i64 (lo ((m * n : Nat) : Int)), .int .i64 (hi ((m * n : Nat) : Int))]) ∧ Ext W w' := fun W => by
    have := rumul_calls W (m : Int) (n : Int) (by unfold I64; omega) (by unfold I64; omega) W (Ext.refl W)
    rw [show U (m : Int) = (m : Int) by unfold U; omega, show U (n : Int) = (n : Int) by unfold U; omega, ← Int.natCast_mul] at this
    exact this
  have w1 : wrap64 (m : Int) = (m : Int) := by unfold wrap64; omega
  have w2 : wrap64 (n : Int) = (n : Int) := by unfold wrap64; omega
  have w3 : wrap64 (e1 + e2) = e1 + e2 := by unfold wrap64; omega
  have w5 : IntKind.i64.wrap (m : Int) = (m : Int) := IntWalk.i64_in _ (by omega)
  have w6 : IntKind.i64.wrap (n : Int) = (n : Int) := IntWalk.i64_in _ (by omega)
  have w4 : IntKind.i64.wrap (e1 + e2) = e1 + e2 := IntWalk.i64_in _ (by omega)
  obtain ⟨x1, hx1⟩ : ∃ x, x = lo ((m * n : Nat) : Int) := ⟨_, rfl⟩
  obtain ⟨x2, hx2⟩ : ∃ x, x = hi ((m * n : Nat) : Int) := ⟨_, rfl⟩
  rw [← hx1, ← hx2] at hum hrn
  have key : ((m : Int) == 0) = true ∨ (((m : Int) == 0) = false ∧ ((n : Int) == 0) = true) ∨ (((m : Int) == 0) = false ∧ ((n : Int) == 0) = false) := by
    cases h1 : ((m : Int) == 0) <;> cases h2 : ((n : Int) == 0) <;> simp
  obtain ⟨sx, hsx⟩ : ∃ x, x = (s ^^ t) := ⟨_, rfl⟩
  rw [← hsx]
  rw [← hsx] at hrn
  have HSX := Lib.hid hsx
  clear hx1 hx2 hmn hm hn hsx
  have pb : P4 ((w.alloc (.cells #[.int .i64 2, .bool s, .int .u64 (m : Int), .int .i64 e1] 111)).alloc (.cells #[.int .i64 2, .bool t, .int .u64 (n : Int), .int .i64 e2] 111)) (w.heap.size + 1) t n e2 := by
    have := P4.last (X := w.alloc (.cells #[.int .i64 2, .bool s, .int .u64 (m : Int), .int .i64 e1] 111)) (n := t) (m := n) (e := e2) (t := 111)
    rw [size_alloc] at this
    exact this
  have xa : Ext (w.alloc (.cells #[.int .i64 2, .bool s, .int .u64 (m : Int), .int .i64 e1] 111)) ((w.alloc (.cells #[.int .i64 2, .bool s, .int .u64 (m : Int), .int .i64 e1] 111)).alloc (.cells #[.int .i64 2, .bool t, .int .u64 (n : Int), .int .i64 e2] 111)) := (Ext.refl _).cells _ _
  have pa := (P4.last (X := w) (n := s) (m := m) (e := e1) (t := 111)).ext xa
  have hx := ((Ext.refl w).cells #[.int .i64 2, .bool s, .int .u64 (m : Int), .int .i64 e1] 111).trans xa
  obtain ⟨W, hW⟩ : ∃ V, V = (w.alloc (.cells #[.int .i64 2, .bool s, .int .u64 (m : Int), .int .i64 e1] 111)).alloc (.cells #[.int .i64 2, .bool t, .int .u64 (n : Int), .int .i64 e2] 111) := ⟨_, rfl⟩
  rw [← hW] at pa pb hx
  obtain ⟨A, hA⟩ : ∃ A, A = w.heap.size := ⟨_, rfl⟩
  obtain ⟨B, hB⟩ : ∃ B, B = w.heap.size + 1 := ⟨_, rfl⟩
  rw [← hA] at pa
  rw [← hB] at pb
  have hAB : A ≠ B := by omega
  have hBA : B ≠ A := by omega
  obtain ⟨res, hres⟩ : ∃ r, r = cellOf (double.nearest sx (m * n) (e1 + e2)) := ⟨_, rfl⟩
  rw [← hres]
  have RES := Lib.hid hres
  have HP := Lib.hid (And.intro pa (And.intro pb hx))
  have a0 := pa.c0
  have a1 := pa.c1
  have a2 := pa.c2
  have a3 := pa.c3
  have fa := pa.f
  have la := pa.lt
  have d0 := pb.c0
  have d1 := pb.c1
  have d2 := pb.c2
  have d3 := pb.c3
  have fb := pb.f
  have lb := pb.lt
  have HX := Lib.hid hx
  have HGE := Lib.hid (show w.heap.size ≤ A ∧ w.heap.size ≤ B by omega)
  clear xa pa pb hres
  go_enter Tryz.func61, Tryz.ntmps61
  go_upto_region 1 with fail
  rw [← hW, ← hB, ← hA]
  clear hW hA hB
  rw [← RES.out] at hrn
  have hS : ∀ W W', Ext W W' → (fun W => (W.cell? ⟨A, 2, none⟩ = some (.int .u64 (m : Int)) ∧ W.cell? ⟨A, 3, none⟩ = some (.int .i64 e1) ∧ W.cell? ⟨B, 2, none⟩ = some (.int .u64 (n : Int)) ∧ W.cell? ⟨B, 3, none⟩ = some (.int .i64 e2)) ∧ Ext w W) W → (fun W => (W.cell? ⟨A, 2, none⟩ = some (.int .u64 (m : Int)) ∧ W.cell? ⟨A, 3, none⟩ = some (.int .i64 e1) ∧ W.cell? ⟨B, 2, none⟩ = some (.int .u64 (n : Int)) ∧ W.cell? ⟨B, 3, none⟩ = some (.int .i64 e2)) ∧ Ext w W) W' := fun W W' hx h => ⟨⟨ext_keeps hx h.1.1, ext_keeps hx h.1.2.1, ext_keeps hx h.1.2.2.1, ext_keeps hx h.1.2.2.2⟩, h.2.trans hx⟩
  have HU := Lib.hid (show ∀ W, (W.cell? ⟨A, 2, none⟩ = some (.int .u64 (m : Int)) ∧ W.cell? ⟨A, 3, none⟩ = some (.int .i64 e1) ∧ W.cell? ⟨B, 2, none⟩ = some (.int .u64 (n : Int)) ∧ W.cell? ⟨B, 3, none⟩ = some (.int .i64 e2)) ∧ Ext w W → Calls Tryz.prog 83 #[.int .i64 (m : Int), .int .i64 (n : Int)] W (fun e w' => e = .returned (.agg #[.int .i64 x1, .int .i64 x2]) ∧ ((w'.cell? ⟨A, 2, none⟩ = some (.int .u64 (m : Int)) ∧ w'.cell? ⟨A, 3, none⟩ = some (.int .i64 e1) ∧ w'.cell? ⟨B, 2, none⟩ = some (.int .u64 (n : Int)) ∧ w'.cell? ⟨B, 3, none⟩ = some (.int .i64 e2)) ∧ Ext w w')) from held_call (fun W => (W.cell? ⟨A, 2, none⟩ = some (.int .u64 (m : Int)) ∧ W.cell? ⟨A, 3, none⟩ = some (.int .i64 e1) ∧ W.cell? ⟨B, 2, none⟩ = some (.int .u64 (n : Int)) ∧ W.cell? ⟨B, 3, none⟩ = some (.int .i64 e2)) ∧ Ext w W) hS hum)
  have HR := Lib.hid (show ∀ W, (W.cell? ⟨A, 2, none⟩ = some (.int .u64 (m : Int)) ∧ W.cell? ⟨A, 3, none⟩ = some (.int .i64 e1) ∧ W.cell? ⟨B, 2, none⟩ = some (.int .u64 (n : Int)) ∧ W.cell? ⟨B, 3, none⟩ = some (.int .i64 e2)) ∧ Ext w W → Calls Tryz.prog 82 #[.bool sx, .agg #[.int .i64 x1, .int .i64 x2], .int .i64 (e1 + e2), .bool false] W (fun e w' => e = .returned (.int .i64 res) ∧ ((w'.cell? ⟨A, 2, none⟩ = some (.int .u64 (m : Int)) ∧ w'.cell? ⟨A, 3, none⟩ = some (.int .i64 e1) ∧ w'.cell? ⟨B, 2, none⟩ = some (.int .u64 (n : Int)) ∧ w'.cell? ⟨B, 3, none⟩ = some (.int .i64 e2)) ∧ Ext w w')) from held_call (fun W => (W.cell? ⟨A, 2, none⟩ = some (.int .u64 (m : Int)) ∧ W.cell? ⟨A, 3, none⟩ = some (.int .i64 e1) ∧ W.cell? ⟨B, 2, none⟩ = some (.int .u64 (n : Int)) ∧ W.cell? ⟨B, 3, none⟩ = some (.int .i64 e2)) ∧ Ext w W) hS hrn)
  have hsx := HSX.out.symm
  clear hS hum hrn
  have hst : s = t ∨ s ≠ t := Classical.em _
  rcases hst with hst | hst
  · have hb : (s != t) = false := by rw [hst]; exact bne_self_eq_false _
    have hb2 : (s == t) = true := by rw [beq_iff_eq]; exact hst
    have hsx : sx = false := by rw [HSX.out, hst]; exact Bool.xor_self t
    subst hsx
    clear hst
    rcases key with h1 | ⟨h1, h2⟩ | ⟨h1, h2⟩
    all_goals
      go_wp2_with fail
      go_region_held3 (fun W => (W.cell? ⟨A, 2, none⟩ = some (.int .u64 (m : Int)) ∧ W.cell? ⟨A, 3, none⟩ = some (.int .i64 e1) ∧ W.cell? ⟨B, 2, none⟩ = some (.int .u64 (n : Int)) ∧ W.cell? ⟨B, 3, none⟩ = some (.int .i64 e2)) ∧ Ext w W) (first | exact ⟨⟨a2, a3, d2, d3⟩, hx⟩ | exact ⟨⟨a2, a3, d2, d3⟩, hx.drew⟩ | exact hy | assumption)
        (first | (go_at_call 83; (with_reducible refine (HU.out _ ?_).mono ?_); assumption; rintro e w' ⟨rfl, hy⟩) | (go_at_call 82; (with_reducible refine (HR.out _ ?_).mono ?_); assumption; rintro e w' ⟨rfl, hy⟩))
      all_goals
        go_wp2_with fail
        go_ret
        exact ⟨rfl, hy.2⟩
  · have hb : (s != t) = true := by rw [bne_iff_ne]; exact hst
    have hb2 : (s == t) = false := by rw [beq_eq_false_iff_ne]; exact hst
    have hsx : sx = true := by rw [HSX.out]; revert hst; cases s <;> cases t <;> simp
    subst hsx
    clear hst
    rcases key with h1 | ⟨h1, h2⟩ | ⟨h1, h2⟩
    all_goals
      go_wp2_with fail
      go_region_held3 (fun W => (W.cell? ⟨A, 2, none⟩ = some (.int .u64 (m : Int)) ∧ W.cell? ⟨A, 3, none⟩ = some (.int .i64 e1) ∧ W.cell? ⟨B, 2, none⟩ = some (.int .u64 (n : Int)) ∧ W.cell? ⟨B, 3, none⟩ = some (.int .i64 e2)) ∧ Ext w W) (first | exact ⟨⟨a2, a3, d2, d3⟩, hx⟩ | exact ⟨⟨a2, a3, d2, d3⟩, hx.drew⟩ | exact hy | assumption)
        (first | (go_at_call 83; (with_reducible refine (HU.out _ ?_).mono ?_); assumption; rintro e w' ⟨rfl, hy⟩) | (go_at_call 82; (with_reducible refine (HR.out _ ?_).mono ?_); assumption; rintro e w' ⟨rfl, hy⟩))
      all_goals
        go_wp2_with fail
        go_ret
        exact ⟨rfl, hy.2⟩
end Go.Proofs.YtegcecpmdgljpaaGreatDoor
