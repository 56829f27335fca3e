/- Layer 4 (package real): cells as floats and back; what each operation returns. No condition. -/
import Derived.Test.YthmdobajilladaaDoorC1Base
import Derived.Test.YthmdobajilladaaDoorJF
import Derived.Test.YthmdobajilladaaDoorNum
import Derived.Laws.Externs
namespace Go.Proofs.YthmdobajilladaaDoor
open Go.RowKit Ieee
set_option linter.unusedVariables false

/-- The bits of a cell. -/
def fbits (a : Int) : Nat := (IntKind.u64.wrap a).toNat
def isN (x : Nat) : Bool := (double.read x).isNaN
/-- The cell of a float. -/
def cellOf (x : Nat) : Int := if isN x then 9221120237041090560 else wrap64 (x : Int)
def resOf : Option Nat → Int
  | some r => cellOf r
  | none => 9221120237041090560
theorem fbits_lt (a : Int) : fbits a < 18446744073709551616 := by unfold fbits; rw [IntKind.wrap_u64]; omega

theorem order_self (x : Nat) : double.order x x = if isN x then none else some .eq := by
  unfold Format.order isN
  cases double.read x with
  | number s m e => simp [Datum.order, Datum.isNaN]
  | infinity s => simp [Datum.order, Datum.isNaN]
  | nan s t => simp [Datum.order, Datum.isNaN]
theorem neq_self (x : Nat) : (double.order x x != some .eq) = isN x := by
  rw [order_self]
  cases isN x <;> simp

@[go_sem] theorem run_frombits (n : Int) (w : World) : (callFunc 46 #[.int .u64 n]).run Tryd.prog w = .ok (.value (.float .f64 n.toNat)) w := by
  rw [run_callFunc_extern Tryd.func46 (by kernel_rfl) (by kernel_rfl) (by kernel_rfl) (e := Extern.MathFloatBits.float64frombits) (by kernel_rfl)]
  rfl
@[go_sem] theorem run_tobits (x : Nat) (w : World) : (callFunc 42 #[.float .f64 x]).run Tryd.prog w = .ok (.value (.int .u64 (x : Int))) w := by
  rw [run_callFunc_extern Tryd.func42 (by kernel_rfl) (by kernel_rfl) (by kernel_rfl) (e := Extern.MathFloatBits.float64bits) (by kernel_rfl)]
  rfl

theorem isnan_calls (x : Nat) (b : Bool) (h : isN x = b) (w : World) : Calls Tryd.prog 32 #[.float .f64 x] w fun e w' => e = .returned (.bool b) ∧ w = w' := by
  have hq : (FloatKind.f64.format.order x x != some .eq) = b := by rw [← h]; exact neq_self x
  go_enter Tryd.func32, Tryd.ntmps32
  go_wp2
  go_ret
  exact ⟨rfl, rfl⟩
set_option maxRecDepth 100000 in
theorem tofloat_calls (a : Int) (w : World) : Calls Tryd.prog 31 #[.int .i64 a] w fun e w' => e = .returned (.float .f64 (fbits a)) ∧ w = w' := by
  go_enter Tryd.func31, Tryd.ntmps31
  go_wp2
  go_ret
  exact ⟨rfl, rfl⟩
set_option maxRecDepth 100000 in
theorem tocell_calls (x : Nat) (w : World) : Calls Tryd.prog 26 #[.float .f64 x] w fun e w' => e = .returned (.int .i64 (cellOf x)) ∧ w = w' := by
  unfold cellOf
  cases h : isN x with
  | true =>
    have hn := Lib.hid (isnan_calls x true h)
    go_enter Tryd.func26, Tryd.ntmps26
    go_wp2_with fail
    refine (hn.out _).mono ?_
    rintro e w1 ⟨rfl, rfl⟩
    go_wp2_with fail
    go_ret
    exact ⟨rfl, rfl⟩
  | false =>
    have hn := Lib.hid (isnan_calls x false h)
    go_enter Tryd.func26, Tryd.ntmps26
    go_wp2_with fail
    refine (hn.out _).mono ?_
    rintro e w1 ⟨rfl, rfl⟩
    go_wp2_with fail
    go_ret
    exact ⟨rfl, rfl⟩

set_option maxRecDepth 100000 in
theorem of_calls (n : Int) (w : World) : Calls Tryd.prog 17 #[.int .i64 n] w fun e w' => e = .returned (.int .i64 (cellOf (ofF n))) ∧ w = w' := by
  have ht := Lib.hid (tocell_calls (ofF n))
  unfold ofF at ht
  go_enter Tryd.func17, Tryd.ntmps17
  go_wp2_with fail
  refine (ht.out _).mono ?_
  rintro e w1 ⟨rfl, rfl⟩
  go_wp2_with fail
  go_ret
  exact ⟨rfl, rfl⟩

theorem nan_word (t : Nat) : isN ((t % 2) * 2 ^ 63 + 0x7ff0000000000000 + 1 + (t / 2) % (2 ^ 52 - 1)) = true := by
  have e : (t % 2) * 2 ^ 63 + 0x7ff0000000000000 + 1 + (t / 2) % (2 ^ 52 - 1) = double.word (decide (t % 2 = 1)) (9218868437227405313 + (t / 2) % 4503599627370495) := by
    rw [word_d]
    by_cases h : t % 2 = 1
    · rw [decide_eq_true h, if_pos rfl, h]; omega
    · rw [decide_eq_false h]; simp; omega
  have hb : (t / 2) % 4503599627370495 < 4503599627370495 := Nat.mod_lt _ (by decide)
  unfold isN
  rw [e, read_word _ _ (by omega), if_neg (by omega), if_neg (by omega)]
  rfl
/-- An operation that has no answer: some bits that are no number. -/
theorem run_float_none (op : BinOp) (hop : op = .add ∨ op = .sub ∨ op = .mul ∨ op = .quo) (t : TypeId) (x y : Nat) (h : floatBits op .f64 x y = none) (w : World) :
    ∃ r, isN r = true ∧ (binOp op t (.float .f64 x) (.float .f64 y)).run Tryd.prog w = .ok (.float .f64 r) w.drew := by
  refine ⟨_, nan_word (w.tape w.drawn (.nanBits .f64 x y)), ?_⟩
  unfold floatBits at h
  rcases hop with rfl | rfl | rfl | rfl <;> simp only at h <;> simp [binOp, Op.floatArith, h, Question.cut, Question.forced]
theorem run_float_drawn (op : BinOp) (hop : op = .add ∨ op = .sub ∨ op = .mul ∨ op = .quo) (t : TypeId) (x y : Nat) (h : floatBits op .f64 x y = none) :
    ∃ r : World → Nat, (∀ w, isN (r w) = true) ∧ ∀ w, (binOp op t (.float .f64 x) (.float .f64 y)).run Tryd.prog w = .ok (.float .f64 (r w)) w.drew :=
  ⟨fun w => (run_float_none op hop t x y h w).choose, fun w => (run_float_none op hop t x y h w).choose_spec.1, fun w => (run_float_none op hop t x y h w).choose_spec.2⟩
theorem cell_nan {x : Nat} (h : isN x = true) : cellOf x = 9221120237041090560 := by unfold cellOf; rw [if_pos h]
set_option maxRecDepth 100000 in
theorem two_add (a b : Int) (w : World) : Calls Tryd.prog 14 #[.int .i64 3, .int .i64 a, .int .i64 b] w fun e w' => e = .returned (.tuple #[.int .i64 (resOf (double.add (fbits a) (fbits b))), .int .i64 0]) ∧ Ext w w' := by
  have ha := Lib.hid (tofloat_calls a)
  have hb := Lib.hid (tofloat_calls b)
  generalize fbits a = x at *
  generalize fbits b = y at *
  cases h : double.add x y with
  | none =>
    obtain ⟨r, hn, hr⟩ := run_float_drawn .add (by simp) 47 x y h
    have hc := Lib.hid fun W => tocell_calls (r W)
    have H := Lib.hid hn
    clear h hn
    go_enter Tryd.func14, Tryd.ntmps14
    go_wp2_with fail
    refine (ha.out _).mono ?_
    rintro e w1 ⟨rfl, rfl⟩
    go_wp2_with fail
    refine (hb.out _).mono ?_
    rintro e w1 ⟨rfl, rfl⟩
    go_wp2_with fail
    refine (hc.out _ _).mono ?_
    rintro e w1 ⟨rfl, rfl⟩
    go_wp2_with fail
    go_ret2
    exact ⟨by rw [cell_nan (H.out _)]; rfl, (Ext.refl _).drew⟩
  | some r =>
    have hr := fun W => run_float_arith (P := Tryd.prog) W .add 47 .f64 x y r h
    have hc := Lib.hid (tocell_calls r)
    clear h
    go_enter Tryd.func14, Tryd.ntmps14
    go_wp2_with fail
    refine (ha.out _).mono ?_
    rintro e w1 ⟨rfl, rfl⟩
    go_wp2_with fail
    refine (hb.out _).mono ?_
    rintro e w1 ⟨rfl, rfl⟩
    go_wp2_with fail
    refine (hc.out _).mono ?_
    rintro e w1 ⟨rfl, rfl⟩
    go_wp2_with fail
    go_ret2
    exact ⟨rfl, Ext.refl _⟩
set_option maxRecDepth 100000 in
theorem two_sub (a b : Int) (w : World) : Calls Tryd.prog 14 #[.int .i64 4, .int .i64 a, .int .i64 b] w fun e w' => e = .returned (.tuple #[.int .i64 (resOf (double.sub (fbits a) (fbits b))), .int .i64 0]) ∧ Ext w w' := by
  have ha := Lib.hid (tofloat_calls a)
  have hb := Lib.hid (tofloat_calls b)
  generalize fbits a = x at *
  generalize fbits b = y at *
  cases h : double.sub x y with
  | none =>
    obtain ⟨r, hn, hr⟩ := run_float_drawn .sub (by simp) 47 x y h
    have hc := Lib.hid fun W => tocell_calls (r W)
    have H := Lib.hid hn
    clear h hn
    go_enter Tryd.func14, Tryd.ntmps14
    go_wp2_with fail
    refine (ha.out _).mono ?_
    rintro e w1 ⟨rfl, rfl⟩
    go_wp2_with fail
    refine (hb.out _).mono ?_
    rintro e w1 ⟨rfl, rfl⟩
    go_wp2_with fail
    refine (hc.out _ _).mono ?_
    rintro e w1 ⟨rfl, rfl⟩
    go_wp2_with fail
    go_ret2
    exact ⟨by rw [cell_nan (H.out _)]; rfl, (Ext.refl _).drew⟩
  | some r =>
    have hr := fun W => run_float_arith (P := Tryd.prog) W .sub 47 .f64 x y r h
    have hc := Lib.hid (tocell_calls r)
    clear h
    go_enter Tryd.func14, Tryd.ntmps14
    go_wp2_with fail
    refine (ha.out _).mono ?_
    rintro e w1 ⟨rfl, rfl⟩
    go_wp2_with fail
    refine (hb.out _).mono ?_
    rintro e w1 ⟨rfl, rfl⟩
    go_wp2_with fail
    refine (hc.out _).mono ?_
    rintro e w1 ⟨rfl, rfl⟩
    go_wp2_with fail
    go_ret2
    exact ⟨rfl, Ext.refl _⟩
set_option maxRecDepth 100000 in
theorem two_mul (a b : Int) (w : World) : Calls Tryd.prog 14 #[.int .i64 5, .int .i64 a, .int .i64 b] w fun e w' => e = .returned (.tuple #[.int .i64 (resOf (double.mul (fbits a) (fbits b))), .int .i64 0]) ∧ Ext w w' := by
  have ha := Lib.hid (tofloat_calls a)
  have hb := Lib.hid (tofloat_calls b)
  generalize fbits a = x at *
  generalize fbits b = y at *
  cases h : double.mul x y with
  | none =>
    obtain ⟨r, hn, hr⟩ := run_float_drawn .mul (by simp) 47 x y h
    have hc := Lib.hid fun W => tocell_calls (r W)
    have H := Lib.hid hn
    clear h hn
    go_enter Tryd.func14, Tryd.ntmps14
    go_wp2_with fail
    refine (ha.out _).mono ?_
    rintro e w1 ⟨rfl, rfl⟩
    go_wp2_with fail
    refine (hb.out _).mono ?_
    rintro e w1 ⟨rfl, rfl⟩
    go_wp2_with fail
    refine (hc.out _ _).mono ?_
    rintro e w1 ⟨rfl, rfl⟩
    go_wp2_with fail
    go_ret2
    exact ⟨by rw [cell_nan (H.out _)]; rfl, (Ext.refl _).drew⟩
  | some r =>
    have hr := fun W => run_float_arith (P := Tryd.prog) W .mul 47 .f64 x y r h
    have hc := Lib.hid (tocell_calls r)
    clear h
    go_enter Tryd.func14, Tryd.ntmps14
    go_wp2_with fail
    refine (ha.out _).mono ?_
    rintro e w1 ⟨rfl, rfl⟩
    go_wp2_with fail
    refine (hb.out _).mono ?_
    rintro e w1 ⟨rfl, rfl⟩
    go_wp2_with fail
    refine (hc.out _).mono ?_
    rintro e w1 ⟨rfl, rfl⟩
    go_wp2_with fail
    go_ret2
    exact ⟨rfl, Ext.refl _⟩
set_option maxRecDepth 100000 in
theorem two_quo (a b : Int) (w : World) : Calls Tryd.prog 14 #[.int .i64 6, .int .i64 a, .int .i64 b] w fun e w' => e = .returned (.tuple #[.int .i64 (resOf (double.div (fbits a) (fbits b))), .int .i64 0]) ∧ Ext w w' := by
  have ha := Lib.hid (tofloat_calls a)
  have hb := Lib.hid (tofloat_calls b)
  generalize fbits a = x at *
  generalize fbits b = y at *
  cases h : double.div x y with
  | none =>
    obtain ⟨r, hn, hr⟩ := run_float_drawn .quo (by simp) 47 x y h
    have hc := Lib.hid fun W => tocell_calls (r W)
    have H := Lib.hid hn
    clear h hn
    go_enter Tryd.func14, Tryd.ntmps14
    go_wp2_with fail
    refine (ha.out _).mono ?_
    rintro e w1 ⟨rfl, rfl⟩
    go_wp2_with fail
    refine (hb.out _).mono ?_
    rintro e w1 ⟨rfl, rfl⟩
    go_wp2_with fail
    refine (hc.out _ _).mono ?_
    rintro e w1 ⟨rfl, rfl⟩
    go_wp2_with fail
    go_ret2
    exact ⟨by rw [cell_nan (H.out _)]; rfl, (Ext.refl _).drew⟩
  | some r =>
    have hr := fun W => run_float_arith (P := Tryd.prog) W .quo 47 .f64 x y r h
    have hc := Lib.hid (tocell_calls r)
    clear h
    go_enter Tryd.func14, Tryd.ntmps14
    go_wp2_with fail
    refine (ha.out _).mono ?_
    rintro e w1 ⟨rfl, rfl⟩
    go_wp2_with fail
    refine (hb.out _).mono ?_
    rintro e w1 ⟨rfl, rfl⟩
    go_wp2_with fail
    refine (hc.out _).mono ?_
    rintro e w1 ⟨rfl, rfl⟩
    go_wp2_with fail
    go_ret2
    exact ⟨rfl, Ext.refl _⟩
end Go.Proofs.YthmdobajilladaaDoor
