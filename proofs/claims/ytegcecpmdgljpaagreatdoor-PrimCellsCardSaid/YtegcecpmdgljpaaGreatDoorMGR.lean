/- Layer 4 (package real): cells as floats and back; what each operation returns. No condition. Layer 4 (package real): order, least and greatest, signs, whole numbers. No condition. Layer 4 (package math): IsInf, normalize, Frexp of finite numbers without a sign. No condition. Layer 4 (package math): Ldexp of finite numbers without a sign: rounded once. Condition: the power is of at most five digits. -/
import Derived.Test.YtegcecpmdgljpaaGreatDoorC1Base
import Derived.Test.YtegcecpmdgljpaaGreatDoorMGF
import Derived.Test.YtegcecpmdgljpaaGreatDoorNum
import Derived.Laws.Externs
namespace Go.Proofs.YtegcecpmdgljpaaGreatDoor
open Go.RowKit Ieee
set_option linter.unusedVariables false

/-- The bits of a cell. -/
def fbits (a : Int) : Nat := (IntKind.u64.wrap a).toNat
def isN (x : Nat) : Bool := (double.read x).isNaN
/-- The cell of a float. -/
def cellOf (x : Nat) : Int := if isN x then 9221120237041090560 else wrap64 (x : Int)
def resOf : Option Nat → Int
  | some r => cellOf r
  | none => 9221120237041090560
theorem fbits_lt (a : Int) : fbits a < 18446744073709551616 := by unfold fbits; rw [IntKind.wrap_u64]; omega

theorem order_self (x : Nat) : double.order x x = if isN x then none else some .eq := by
  unfold Format.order isN
  cases double.read x with
  | number s m e => simp [Datum.order, Datum.isNaN]
  | infinity s => simp [Datum.order, Datum.isNaN]
  | nan s t => simp [Datum.order, Datum.isNaN]
theorem neq_self (x : Nat) : (double.order x x != some .eq) = isN x := by
  rw [order_self]
  cases isN x <;> simp

@[go_sem] theorem run_frombits (n : Int) (w : World) : (callFunc 234 #[.int .u64 n]).run Tryz.prog w = .ok (.value (.float .f64 n.toNat)) w := by
  rw [run_callFunc_extern Tryz.func234 (by kernel_rfl) (by kernel_rfl) (by kernel_rfl) (e := Extern.MathFloatBits.float64frombits) (by kernel_rfl)]
  rfl
@[go_sem] theorem run_tobits (x : Nat) (w : World) : (callFunc 235 #[.float .f64 x]).run Tryz.prog w = .ok (.value (.int .u64 (x : Int))) w := by
  rw [run_callFunc_extern Tryz.func235 (by kernel_rfl) (by kernel_rfl) (by kernel_rfl) (e := Extern.MathFloatBits.float64bits) (by kernel_rfl)]
  rfl

theorem isnan_calls (x : Nat) (b : Bool) (h : isN x = b) (w : World) : Calls Tryz.prog 210 #[.float .f64 x] w fun e w' => e = .returned (.bool b) ∧ w = w' := by
  have hq : (FloatKind.f64.format.order x x != some .eq) = b := by rw [← h]; exact neq_self x
  go_enter Tryz.func210, Tryz.ntmps210
  go_wp2
  go_ret
  exact ⟨rfl, rfl⟩
set_option maxRecDepth 100000 in
theorem tofloat_calls (a : Int) (w : World) : Calls Tryz.prog 193 #[.int .i64 a] w fun e w' => e = .returned (.float .f64 (fbits a)) ∧ w = w' := by
  go_enter Tryz.func193, Tryz.ntmps193
  go_wp2
  go_ret
  exact ⟨rfl, rfl⟩
set_option maxRecDepth 100000 in
theorem tocell_calls (x : Nat) (w : World) : Calls Tryz.prog 194 #[.float .f64 x] w fun e w' => e = .returned (.int .i64 (cellOf x)) ∧ w = w' := by
  unfold cellOf
  cases h : isN x with
  | true =>
    have hn := Lib.hid (isnan_calls x true h)
    go_enter Tryz.func194, Tryz.ntmps194
    go_wp2_with fail
    refine (hn.out _).mono ?_
    rintro e w1 ⟨rfl, rfl⟩
    go_wp2_with fail
    go_ret
    exact ⟨rfl, rfl⟩
  | false =>
    have hn := Lib.hid (isnan_calls x false h)
    go_enter Tryz.func194, Tryz.ntmps194
    go_wp2_with fail
    refine (hn.out _).mono ?_
    rintro e w1 ⟨rfl, rfl⟩
    go_wp2_with fail
    go_ret
    exact ⟨rfl, rfl⟩

set_option maxRecDepth 100000 in
theorem realof_calls (n : Int) (w : World) : Calls Tryz.prog 124 #[.int .i64 n] w fun e w' => e = .returned (.int .i64 (cellOf (ofF n))) ∧ w = w' := by
  have ht := Lib.hid (tocell_calls (ofF n))
  unfold ofF at ht
  go_enter Tryz.func124, Tryz.ntmps124
  go_wp2_with fail
  refine (ht.out _).mono ?_
  rintro e w1 ⟨rfl, rfl⟩
  go_wp2_with fail
  go_ret
  exact ⟨rfl, rfl⟩

theorem nan_word (t : Nat) : isN ((t % 2) * 2 ^ 63 + 0x7ff0000000000000 + 1 + (t / 2) % (2 ^ 52 - 1)) = true := by
  have e : (t % 2) * 2 ^ 63 + 0x7ff0000000000000 + 1 + (t / 2) % (2 ^ 52 - 1) = double.word (decide (t % 2 = 1)) (9218868437227405313 + (t / 2) % 4503599627370495) := by
    rw [word_d]
    by_cases h : t % 2 = 1
    · rw [decide_eq_true h, if_pos rfl, h]; omega
    · rw [decide_eq_false h]; simp; omega
  have hb : (t / 2) % 4503599627370495 < 4503599627370495 := Nat.mod_lt _ (by decide)
  unfold isN
  rw [e, read_word _ _ (by omega), if_neg (by omega), if_neg (by omega)]
  rfl
/-- An operation that has no answer: some bits that are no number. -/
theorem run_float_none (op : BinOp) (hop : op = .add ∨ op = .sub ∨ op = .mul ∨ op = .quo) (t : TypeId) (x y : Nat) (h : floatBits op .f64 x y = none) (w : World) :
    ∃ r, isN r = true ∧ (binOp op t (.float .f64 x) (.float .f64 y)).run Tryz.prog w = .ok (.float .f64 r) w.drew := by
  refine ⟨_, nan_word (w.tape w.drawn (.nanBits .f64 x y)), ?_⟩
  unfold floatBits at h
  rcases hop with rfl | rfl | rfl | rfl <;> simp only at h <;> simp [binOp, Op.floatArith, h, Question.cut, Question.forced]
theorem run_float_drawn (op : BinOp) (hop : op = .add ∨ op = .sub ∨ op = .mul ∨ op = .quo) (t : TypeId) (x y : Nat) (h : floatBits op .f64 x y = none) :
    ∃ r : World → Nat, (∀ w, isN (r w) = true) ∧ ∀ w, (binOp op t (.float .f64 x) (.float .f64 y)).run Tryz.prog w = .ok (.float .f64 (r w)) w.drew :=
  ⟨fun w => (run_float_none op hop t x y h w).choose, fun w => (run_float_none op hop t x y h w).choose_spec.1, fun w => (run_float_none op hop t x y h w).choose_spec.2⟩
theorem cell_nan {x : Nat} (h : isN x = true) : cellOf x = 9221120237041090560 := by unfold cellOf; rw [if_pos h]
set_option maxRecDepth 100000 in
theorem two_add (a b : Int) (w : World) : Calls Tryz.prog 97 #[.int .i64 3, .int .i64 a, .int .i64 b] w fun e w' => e = .returned (.tuple #[.int .i64 (resOf (double.add (fbits a) (fbits b))), .int .i64 0]) ∧ Ext w w' := by
  have ha := Lib.hid (tofloat_calls a)
  have hb := Lib.hid (tofloat_calls b)
  generalize fbits a = x at *
  generalize fbits b = y at *
  cases h : double.add x y with
  | none =>
    obtain ⟨r, hn, hr⟩ := run_float_drawn .add (by simp) 159 x y h
    have hc := Lib.hid fun W => tocell_calls (r W)
    have H := Lib.hid hn
    clear h hn
    go_enter Tryz.func97, Tryz.ntmps97
    go_wp2_with fail
    refine (ha.out _).mono ?_
    rintro e w1 ⟨rfl, rfl⟩
    go_wp2_with fail
    refine (hb.out _).mono ?_
    rintro e w1 ⟨rfl, rfl⟩
    go_wp2_with fail
    refine (hc.out _ _).mono ?_
    rintro e w1 ⟨rfl, rfl⟩
    go_wp2_with fail
    go_ret2
    exact ⟨by rw [cell_nan (H.out _)]; rfl, (Ext.refl _).drew⟩
  | some r =>
    have hr := fun W => run_float_arith (P := Tryz.prog) W .add 159 .f64 x y r h
    have hc := Lib.hid (tocell_calls r)
    clear h
    go_enter Tryz.func97, Tryz.ntmps97
    go_wp2_with fail
    refine (ha.out _).mono ?_
    rintro e w1 ⟨rfl, rfl⟩
    go_wp2_with fail
    refine (hb.out _).mono ?_
    rintro e w1 ⟨rfl, rfl⟩
    go_wp2_with fail
    refine (hc.out _).mono ?_
    rintro e w1 ⟨rfl, rfl⟩
    go_wp2_with fail
    go_ret2
    exact ⟨rfl, Ext.refl _⟩
set_option maxRecDepth 100000 in
theorem two_sub (a b : Int) (w : World) : Calls Tryz.prog 97 #[.int .i64 4, .int .i64 a, .int .i64 b] w fun e w' => e = .returned (.tuple #[.int .i64 (resOf (double.sub (fbits a) (fbits b))), .int .i64 0]) ∧ Ext w w' := by
  have ha := Lib.hid (tofloat_calls a)
  have hb := Lib.hid (tofloat_calls b)
  generalize fbits a = x at *
  generalize fbits b = y at *
  cases h : double.sub x y with
  | none =>
    obtain ⟨r, hn, hr⟩ := run_float_drawn .sub (by simp) 159 x y h
    have hc := Lib.hid fun W => tocell_calls (r W)
    have H := Lib.hid hn
    clear h hn
    go_enter Tryz.func97, Tryz.ntmps97
    go_wp2_with fail
    refine (ha.out _).mono ?_
    rintro e w1 ⟨rfl, rfl⟩
    go_wp2_with fail
    refine (hb.out _).mono ?_
    rintro e w1 ⟨rfl, rfl⟩
    go_wp2_with fail
    refine (hc.out _ _).mono ?_
    rintro e w1 ⟨rfl, rfl⟩
    go_wp2_with fail
    go_ret2
    exact ⟨by rw [cell_nan (H.out _)]; rfl, (Ext.refl _).drew⟩
  | some r =>
    have hr := fun W => run_float_arith (P := Tryz.prog) W .sub 159 .f64 x y r h
    have hc := Lib.hid (tocell_calls r)
    clear h
    go_enter Tryz.func97, Tryz.ntmps97
    go_wp2_with fail
    refine (ha.out _).mono ?_
    rintro e w1 ⟨rfl, rfl⟩
    go_wp2_with fail
    refine (hb.out _).mono ?_
    rintro e w1 ⟨rfl, rfl⟩
    go_wp2_with fail
    refine (hc.out _).mono ?_
    rintro e w1 ⟨rfl, rfl⟩
    go_wp2_with fail
    go_ret2
    exact ⟨rfl, Ext.refl _⟩
set_option maxRecDepth 100000 in
theorem two_mul (a b : Int) (w : World) : Calls Tryz.prog 97 #[.int .i64 5, .int .i64 a, .int .i64 b] w fun e w' => e = .returned (.tuple #[.int .i64 (resOf (double.mul (fbits a) (fbits b))), .int .i64 0]) ∧ Ext w w' := by
  have ha := Lib.hid (tofloat_calls a)
  have hb := Lib.hid (tofloat_calls b)
  generalize fbits a = x at *
  generalize fbits b = y at *
  cases h : double.mul x y with
  | none =>
    obtain ⟨r, hn, hr⟩ := run_float_drawn .mul (by simp) 159 x y h
    have hc := Lib.hid fun W => tocell_calls (r W)
    have H := Lib.hid hn
    clear h hn
    go_enter Tryz.func97, Tryz.ntmps97
    go_wp2_with fail
    refine (ha.out _).mono ?_
    rintro e w1 ⟨rfl, rfl⟩
    go_wp2_with fail
    refine (hb.out _).mono ?_
    rintro e w1 ⟨rfl, rfl⟩
    go_wp2_with fail
    refine (hc.out _ _).mono ?_
    rintro e w1 ⟨rfl, rfl⟩
    go_wp2_with fail
    go_ret2
    exact ⟨by rw [cell_nan (H.out _)]; rfl, (Ext.refl _).drew⟩
  | some r =>
    have hr := fun W => run_float_arith (P := Tryz.prog) W .mul 159 .f64 x y r h
    have hc := Lib.hid (tocell_calls r)
    clear h
    go_enter Tryz.func97, Tryz.ntmps97
    go_wp2_with fail
    refine (ha.out _).mono ?_
    rintro e w1 ⟨rfl, rfl⟩
    go_wp2_with fail
    refine (hb.out _).mono ?_
    rintro e w1 ⟨rfl, rfl⟩
    go_wp2_with fail
    refine (hc.out _).mono ?_
    rintro e w1 ⟨rfl, rfl⟩
    go_wp2_with fail
    go_ret2
    exact ⟨rfl, Ext.refl _⟩
set_option maxRecDepth 100000 in
theorem two_quo (a b : Int) (w : World) : Calls Tryz.prog 97 #[.int .i64 6, .int .i64 a, .int .i64 b] w fun e w' => e = .returned (.tuple #[.int .i64 (resOf (double.div (fbits a) (fbits b))), .int .i64 0]) ∧ Ext w w' := by
  have ha := Lib.hid (tofloat_calls a)
  have hb := Lib.hid (tofloat_calls b)
  generalize fbits a = x at *
  generalize fbits b = y at *
  cases h : double.div x y with
  | none =>
    obtain ⟨r, hn, hr⟩ := run_float_drawn .quo (by simp) 159 x y h
    have hc := Lib.hid fun W => tocell_calls (r W)
    have H := Lib.hid hn
    clear h hn
    go_enter Tryz.func97, Tryz.ntmps97
    go_wp2_with fail
    refine (ha.out _).mono ?_
    rintro e w1 ⟨rfl, rfl⟩
    go_wp2_with fail
    refine (hb.out _).mono ?_
    rintro e w1 ⟨rfl, rfl⟩
    go_wp2_with fail
    refine (hc.out _ _).mono ?_
    rintro e w1 ⟨rfl, rfl⟩
    go_wp2_with fail
    go_ret2
    exact ⟨by rw [cell_nan (H.out _)]; rfl, (Ext.refl _).drew⟩
  | some r =>
    have hr := fun W => run_float_arith (P := Tryz.prog) W .quo 159 .f64 x y r h
    have hc := Lib.hid (tocell_calls r)
    clear h
    go_enter Tryz.func97, Tryz.ntmps97
    go_wp2_with fail
    refine (ha.out _).mono ?_
    rintro e w1 ⟨rfl, rfl⟩
    go_wp2_with fail
    refine (hb.out _).mono ?_
    rintro e w1 ⟨rfl, rfl⟩
    go_wp2_with fail
    refine (hc.out _).mono ?_
    rintro e w1 ⟨rfl, rfl⟩
    go_wp2_with fail
    go_ret2
    exact ⟨rfl, Ext.refl _⟩
end Go.Proofs.YtegcecpmdgljpaaGreatDoor

namespace Go.Proofs.YtegcecpmdgljpaaGreatDoor
open Go.RowKit Ieee
set_option linter.unusedVariables false

def truthI (b : Bool) : Int := if b then -1 else 0
theorem truth_prog (b : Bool) (w : World) : Calls Tryz.prog 186 #[.bool b] w fun e w' => e = .returned (.int .i64 (truthI b)) ∧ w = w' := by
  cases b <;> (go_enter Tryz.func186, Tryz.ntmps186; go_wp2; go_ret; exact ⟨rfl, rfl⟩)
set_option maxRecDepth 100000 in
theorem two_less (a b : Int) (w : World) : Calls Tryz.prog 97 #[.int .i64 9, .int .i64 a, .int .i64 b] w fun e w' => e = .returned (.tuple #[.int .i64 (truthI (double.order (fbits a) (fbits b) == some .lt)), .int .i64 0]) ∧ Ext w w' := by
  have ha := Lib.hid (tofloat_calls a)
  have hb := Lib.hid (tofloat_calls b)
  generalize fbits a = x at *
  generalize fbits b = y at *
  obtain ⟨c, hc⟩ : ∃ c, c = (FloatKind.f64.format.order x y == some .lt) := ⟨_, rfl⟩
  have hr : (FloatKind.f64.format.order x y == some .lt) = c := hc.symm
  have ht := Lib.hid (truth_prog c)
  have e : (double.order x y == some .lt) = c := hr
  rw [e]
  clear e hc
  go_enter Tryz.func97, Tryz.ntmps97
  go_wp2_with fail
  refine (ha.out _).mono ?_
  rintro e w1 ⟨rfl, rfl⟩
  go_wp2_with fail
  refine (hb.out _).mono ?_
  rintro e w1 ⟨rfl, rfl⟩
  go_wp2_with fail
  refine (ht.out _).mono ?_
  rintro e w1 ⟨rfl, rfl⟩
  go_wp2_with fail
  go_ret2
  exact ⟨rfl, Ext.refl _⟩
set_option maxRecDepth 100000 in
theorem two_equal (a b : Int) (w : World) : Calls Tryz.prog 97 #[.int .i64 10, .int .i64 a, .int .i64 b] w fun e w' => e = .returned (.tuple #[.int .i64 (truthI (double.order (fbits a) (fbits b) == some .eq)), .int .i64 0]) ∧ Ext w w' := by
  have ha := Lib.hid (tofloat_calls a)
  have hb := Lib.hid (tofloat_calls b)
  generalize fbits a = x at *
  generalize fbits b = y at *
  obtain ⟨c, hc⟩ : ∃ c, c = (FloatKind.f64.format.order x y == some .eq) := ⟨_, rfl⟩
  have hr : (FloatKind.f64.format.order x y == some .eq) = c := hc.symm
  have ht := Lib.hid (truth_prog c)
  have e : (double.order x y == some .eq) = c := hr
  rw [e]
  clear e hc
  go_enter Tryz.func97, Tryz.ntmps97
  go_wp2_with fail
  refine (ha.out _).mono ?_
  rintro e w1 ⟨rfl, rfl⟩
  go_wp2_with fail
  refine (hb.out _).mono ?_
  rintro e w1 ⟨rfl, rfl⟩
  go_wp2_with fail
  refine (ht.out _).mono ?_
  rintro e w1 ⟨rfl, rfl⟩
  go_wp2_with fail
  go_ret2
  exact ⟨rfl, Ext.refl _⟩

def minW (x y : Nat) : Option Nat := match double.order x y with
  | none => none
  | some .lt => some x
  | some .gt => some y
  | some .eq => some (if (double.read x).neg then x else y)
def maxW (x y : Nat) : Option Nat := match double.order x y with
  | none => none
  | some .lt => some y
  | some .gt => some x
  | some .eq => some (if (double.read x).neg then y else x)
theorem run_min_some (ts : Array TypeId) (t : TypeId) (x y r : Nat) (h : minW x y = some r) (w : World) : (Builtin.min_ ts t #[.float .f64 x, .float .f64 y]).run Tryz.prog w = .ok (.float .f64 r) w := by
  have e : FloatKind.f64.format.order x y = double.order x y := rfl
  have d : FloatKind.f64.decode x = double.read x := rfl
  unfold minW at h
  cases k : double.order x y with
  | none => rw [k] at h; cases h
  | some o => rw [k] at h; cases o <;> (simp only [Option.some.injEq] at h; subst h; simp [Builtin.min_, Builtin.min2, e, k, d])
theorem run_max_some (ts : Array TypeId) (t : TypeId) (x y r : Nat) (h : maxW x y = some r) (w : World) : (Builtin.max_ ts t #[.float .f64 x, .float .f64 y]).run Tryz.prog w = .ok (.float .f64 r) w := by
  have e : FloatKind.f64.format.order x y = double.order x y := rfl
  have d : FloatKind.f64.decode x = double.read x := rfl
  unfold maxW at h
  cases k : double.order x y with
  | none => rw [k] at h; cases h
  | some o => rw [k] at h; cases o <;> (simp only [Option.some.injEq] at h; subst h; simp [Builtin.max_, Builtin.max2, e, k, d])
theorem run_min_none (ts : Array TypeId) (t : TypeId) (x y : Nat) (h : minW x y = none) (w : World) : ∃ r, isN r = true ∧ (Builtin.min_ ts t #[.float .f64 x, .float .f64 y]).run Tryz.prog w = .ok (.float .f64 r) w.drew := by
  have e : FloatKind.f64.format.order x y = double.order x y := rfl
  refine ⟨_, nan_word (w.tape w.drawn (.nanMinMax .f64 false x y)), ?_⟩
  unfold minW at h
  cases k : double.order x y with
  | none => simp [Builtin.min_, Builtin.min2, e, k, Question.cut, Question.forced]
  | some o => rw [k] at h; cases o <;> cases h
theorem run_max_none (ts : Array TypeId) (t : TypeId) (x y : Nat) (h : maxW x y = none) (w : World) : ∃ r, isN r = true ∧ (Builtin.max_ ts t #[.float .f64 x, .float .f64 y]).run Tryz.prog w = .ok (.float .f64 r) w.drew := by
  have e : FloatKind.f64.format.order x y = double.order x y := rfl
  refine ⟨_, nan_word (w.tape w.drawn (.nanMinMax .f64 true x y)), ?_⟩
  unfold maxW at h
  cases k : double.order x y with
  | none => simp [Builtin.max_, Builtin.max2, e, k, Question.cut, Question.forced]
  | some o => rw [k] at h; cases o <;> cases h
set_option maxRecDepth 100000 in
theorem two_min (a b : Int) (w : World) : Calls Tryz.prog 97 #[.int .i64 7, .int .i64 a, .int .i64 b] w fun e w' => e = .returned (.tuple #[.int .i64 (resOf (minW (fbits a) (fbits b))), .int .i64 0]) ∧ Ext w w' := by
  have ha := Lib.hid (tofloat_calls a)
  have hb := Lib.hid (tofloat_calls b)
  generalize fbits a = x at *
  generalize fbits b = y at *
  cases h : minW x y with
  | none =>
    have hr0 := fun (ts : Array TypeId) (t : TypeId) (w : World) => run_min_none ts t x y h w
    obtain ⟨r, hn, hr⟩ : ∃ r : Array TypeId → TypeId → World → Nat, (∀ ts t w, isN (r ts t w) = true) ∧ ∀ ts t w, (Builtin.min_ ts t #[.float .f64 x, .float .f64 y]).run Tryz.prog w = .ok (.float .f64 (r ts t w)) w.drew :=
      ⟨fun ts t w => (hr0 ts t w).choose, fun ts t w => (hr0 ts t w).choose_spec.1, fun ts t w => (hr0 ts t w).choose_spec.2⟩
    have hc := Lib.hid fun ts t W => tocell_calls (r ts t W)
    have H := Lib.hid hn
    clear h hn hr0
    go_enter Tryz.func97, Tryz.ntmps97
    go_wp2_with fail
    refine (ha.out _).mono ?_
    rintro e w1 ⟨rfl, rfl⟩
    go_wp2_with fail
    refine (hb.out _).mono ?_
    rintro e w1 ⟨rfl, rfl⟩
    go_wp2_with fail
    refine (hc.out _ _ _ _).mono ?_
    rintro e w1 ⟨rfl, rfl⟩
    go_wp2_with fail
    go_ret2
    exact ⟨by rw [cell_nan (H.out _ _ _)]; rfl, (Ext.refl _).drew⟩
  | some r =>
    have hr := fun ts t W => run_min_some ts t x y r h W
    have hc := Lib.hid (tocell_calls r)
    clear h
    go_enter Tryz.func97, Tryz.ntmps97
    go_wp2_with fail
    refine (ha.out _).mono ?_
    rintro e w1 ⟨rfl, rfl⟩
    go_wp2_with fail
    refine (hb.out _).mono ?_
    rintro e w1 ⟨rfl, rfl⟩
    go_wp2_with fail
    refine (hc.out _).mono ?_
    rintro e w1 ⟨rfl, rfl⟩
    go_wp2_with fail
    go_ret2
    exact ⟨rfl, Ext.refl _⟩
set_option maxRecDepth 100000 in
theorem two_max (a b : Int) (w : World) : Calls Tryz.prog 97 #[.int .i64 8, .int .i64 a, .int .i64 b] w fun e w' => e = .returned (.tuple #[.int .i64 (resOf (maxW (fbits a) (fbits b))), .int .i64 0]) ∧ Ext w w' := by
  have ha := Lib.hid (tofloat_calls a)
  have hb := Lib.hid (tofloat_calls b)
  generalize fbits a = x at *
  generalize fbits b = y at *
  cases h : maxW x y with
  | none =>
    have hr0 := fun (ts : Array TypeId) (t : TypeId) (w : World) => run_max_none ts t x y h w
    obtain ⟨r, hn, hr⟩ : ∃ r : Array TypeId → TypeId → World → Nat, (∀ ts t w, isN (r ts t w) = true) ∧ ∀ ts t w, (Builtin.max_ ts t #[.float .f64 x, .float .f64 y]).run Tryz.prog w = .ok (.float .f64 (r ts t w)) w.drew :=
      ⟨fun ts t w => (hr0 ts t w).choose, fun ts t w => (hr0 ts t w).choose_spec.1, fun ts t w => (hr0 ts t w).choose_spec.2⟩
    have hc := Lib.hid fun ts t W => tocell_calls (r ts t W)
    have H := Lib.hid hn
    clear h hn hr0
    go_enter Tryz.func97, Tryz.ntmps97
    go_wp2_with fail
    refine (ha.out _).mono ?_
    rintro e w1 ⟨rfl, rfl⟩
    go_wp2_with fail
    refine (hb.out _).mono ?_
    rintro e w1 ⟨rfl, rfl⟩
    go_wp2_with fail
    refine (hc.out _ _ _ _).mono ?_
    rintro e w1 ⟨rfl, rfl⟩
    go_wp2_with fail
    go_ret2
    exact ⟨by rw [cell_nan (H.out _ _ _)]; rfl, (Ext.refl _).drew⟩
  | some r =>
    have hr := fun ts t W => run_max_some ts t x y r h W
    have hc := Lib.hid (tocell_calls r)
    clear h
    go_enter Tryz.func97, Tryz.ntmps97
    go_wp2_with fail
    refine (ha.out _).mono ?_
    rintro e w1 ⟨rfl, rfl⟩
    go_wp2_with fail
    refine (hb.out _).mono ?_
    rintro e w1 ⟨rfl, rfl⟩
    go_wp2_with fail
    refine (hc.out _).mono ?_
    rintro e w1 ⟨rfl, rfl⟩
    go_wp2_with fail
    go_ret2
    exact ⟨rfl, Ext.refl _⟩

/-- A float with its sign turned. -/
def negW (x : Nat) : Nat := x ^^^ 9223372036854775808
@[go_sem] theorem run_neg_float (x : Nat) (w : World) : (Op.unary .neg (.float .f64 x)).run Tryz.prog w = .ok (.float .f64 (negW x)) w := by
  have e : 2 ^ (FloatKind.f64.format.exponentBits + FloatKind.f64.format.fractionBits) = 9223372036854775808 := by decide +kernel
  show Result.ok (Value.float .f64 (x ^^^ 2 ^ (FloatKind.f64.format.exponentBits + FloatKind.f64.format.fractionBits))) w = _
  rw [e]
  rfl
set_option maxRecDepth 100000 in
theorem abs_calls (x : Nat) (hx : x < 18446744073709551616) (w : World) : Calls Tryz.prog 195 #[.float .f64 x] w fun e w' => e = .returned (.float .f64 (absW x)) ∧ w = w' := by
  have hb : bits .andNot .u64 (x : Int) 9223372036854775808 = (absW x : Int) := (u64_andNot_nat x 9223372036854775808 hx (by decide)).trans (by rw [show 18446744073709551615 - 9223372036854775808 = 9223372036854775807 from rfl, and_low]; rfl)
  go_enter Tryz.func195, Tryz.ntmps195
  go_wp2
  go_ret
  exact ⟨rfl, rfl⟩
set_option maxRecDepth 100000 in
theorem one_neg (a : Int) (w : World) : Calls Tryz.prog 95 #[.int .i64 1, .int .i64 a] w fun e w' => e = .returned (.tuple #[.int .i64 (cellOf (negW (fbits a))), .int .i64 0]) ∧ w = w' := by
  have ha := Lib.hid (tofloat_calls a)
  generalize fbits a = x at *
  have hc := Lib.hid (tocell_calls (negW x))
  go_enter Tryz.func95, Tryz.ntmps95
  go_wp2_with fail
  refine (ha.out _).mono ?_
  rintro e w1 ⟨rfl, rfl⟩
  go_wp2_with fail
  refine (hc.out _).mono ?_
  rintro e w1 ⟨rfl, rfl⟩
  go_wp2_with fail
  go_ret2
  exact ⟨rfl, rfl⟩
set_option maxRecDepth 100000 in
theorem one_abs (a : Int) (w : World) : Calls Tryz.prog 95 #[.int .i64 2, .int .i64 a] w fun e w' => e = .returned (.tuple #[.int .i64 (cellOf (absW (fbits a))), .int .i64 0]) ∧ w = w' := by
  have ha := Lib.hid (tofloat_calls a)
  have hl := fbits_lt a
  generalize fbits a = x at *
  have hx := Lib.hid (abs_calls x hl)
  have hc := Lib.hid (tocell_calls (absW x))
  clear hl
  go_enter Tryz.func95, Tryz.ntmps95
  go_wp2_with fail
  refine (ha.out _).mono ?_
  rintro e w1 ⟨rfl, rfl⟩
  go_wp2_with fail
  refine (hx.out _).mono ?_
  rintro e w1 ⟨rfl, rfl⟩
  go_wp2_with fail
  refine (hc.out _).mono ?_
  rintro e w1 ⟨rfl, rfl⟩
  go_wp2_with fail
  go_ret2
  exact ⟨rfl, rfl⟩
/-- A float as a cell, rounded towards 0, where it is one. -/
def intOfF (x : Nat) : Option Int := floatToIntVal .f64 x .i64
theorem to_no (a : Int) (h : (double.order (fbits a) 14114281232179134464 == some .gt || double.order (fbits a) 14114281232179134464 == some .eq) = false ∨ (double.order (fbits a) 4890909195324358656 == some .lt) = false) (w : World) :
    Calls Tryz.prog 125 #[.int .i64 a] w fun e w' => e = .returned (.tuple #[.int .i64 0, .int .i64 (-43)]) ∧ w = w' := by
  have ha := Lib.hid (tofloat_calls a)
  generalize fbits a = x at *
  obtain ⟨c, hc⟩ : ∃ c, (FloatKind.f64.format.order x 14114281232179134464 == some .gt || FloatKind.f64.format.order x 14114281232179134464 == some .eq) = c := ⟨_, rfl⟩
  obtain ⟨d, hd⟩ : ∃ d, (FloatKind.f64.format.order x 4890909195324358656 == some .lt) = d := ⟨_, rfl⟩
  have h' : c = false ∨ d = false := by rw [← hc, ← hd]; exact h
  clear h
  cases c with
  | false =>
    go_enter Tryz.func125, Tryz.ntmps125
    go_wp2_with fail
    refine (ha.out _).mono ?_
    rintro e w1 ⟨rfl, rfl⟩
    go_wp2_with fail
    go_ret2
    exact ⟨rfl, rfl⟩
  | true =>
    obtain rfl : d = false := by simpa using h'
    clear h'
    go_enter Tryz.func125, Tryz.ntmps125
    go_wp2_with fail
    refine (ha.out _).mono ?_
    rintro e w1 ⟨rfl, rfl⟩
    go_wp2_with fail
    go_ret2
    exact ⟨rfl, rfl⟩
theorem to_yes (a n : Int) (hc0 : (double.order (fbits a) 14114281232179134464 == some .gt || double.order (fbits a) 14114281232179134464 == some .eq) = true) (hd0 : (double.order (fbits a) 4890909195324358656 == some .lt) = true) (hn : intOfF (fbits a) = some n) (w : World) :
    Calls Tryz.prog 125 #[.int .i64 a] w fun e w' => e = .returned (.tuple #[.int .i64 n, .int .i64 0]) ∧ w = w' := by
  have ha := Lib.hid (tofloat_calls a)
  generalize fbits a = x at *
  have hc : (FloatKind.f64.format.order x 14114281232179134464 == some .gt || FloatKind.f64.format.order x 14114281232179134464 == some .eq) = true := hc0
  have hd : (FloatKind.f64.format.order x 4890909195324358656 == some .lt) = true := hd0
  have hr := fun W => run_convert_float_int (P := Tryz.prog) W 159 37 .f64 .i64 x n (by kernel_rfl) Tryz.underlying37 hn
  clear hc0 hd0 hn
  go_enter Tryz.func125, Tryz.ntmps125
  go_wp2_with fail
  refine (ha.out _).mono ?_
  rintro e w1 ⟨rfl, rfl⟩
  go_wp2_with fail
  go_ret2
  exact ⟨rfl, rfl⟩
end Go.Proofs.YtegcecpmdgljpaaGreatDoor

namespace Go.Proofs.YtegcecpmdgljpaaGreatDoor
open Go.RowKit Ieee
set_option linter.unusedVariables false

theorem absW_f {r : Nat} (h : r < 9223372036854775808) : absW r = r := Nat.mod_eq_of_lt h
theorem f64_order (x y : Nat) : FloatKind.f64.format.order x y = double.order x y := rfl
theorem order_max {r : Nat} (h : r < 9218868437227405312) : (double.order r 9218868437227405311 == some .gt) = false := by
  by_cases k : r = 9218868437227405311
  · subst k; rw [order_eq (by decide)]; rfl
  · rw [order_lt (by omega) (by decide)]; rfl
theorem order_max_inf : (double.order 9218868437227405312 9218868437227405311 == some .gt) = true := by
  rw [order_gt (by decide) (by decide)]; rfl
set_option maxRecDepth 100000 in
theorem isinf0_calls (r : Nat) (h : r ≤ 9218868437227405312) (w : World) : Calls Tryz.prog 239 #[.float .f64 r, .int .i64 0] w fun e w' => e = .returned (.bool (decide (r = 9218868437227405312))) ∧ w = w' := by
  have ha := abs_calls r (by omega)
  rw [absW_f (by omega)] at ha
  have HA := Lib.hid ha
  clear ha
  by_cases k : r = 9218868437227405312
  · have hq : (FloatKind.f64.format.order r 9218868437227405311 == some .gt) = true := by rw [k]; exact order_max_inf
    rw [decide_eq_true k]
    clear k h
    go_enter Tryz.func239, Tryz.ntmps239
    go_wp2_with fail
    refine (HA.out _).mono ?_
    rintro e w1 ⟨rfl, rfl⟩
    go_wp2_with fail
    go_ret
    exact ⟨rfl, rfl⟩
  · have hq : (FloatKind.f64.format.order r 9218868437227405311 == some .gt) = false := order_max (by omega)
    rw [decide_eq_false k]
    clear k h
    go_enter Tryz.func239, Tryz.ntmps239
    go_wp2_with fail
    refine (HA.out _).mono ?_
    rintro e w1 ⟨rfl, rfl⟩
    go_wp2_with fail
    go_ret
    exact ⟨rfl, rfl⟩
set_option maxRecDepth 100000 in
theorem isinf1_calls (r : Nat) (h : r ≤ 9218868437227405312) (w : World) : Calls Tryz.prog 239 #[.float .f64 r, .int .i64 1] w fun e w' => e = .returned (.bool (decide (r = 9218868437227405312))) ∧ w = w' := by
  by_cases k : r = 9218868437227405312
  · have hq : (FloatKind.f64.format.order r 9218868437227405311 == some .gt) = true := by rw [k]; exact order_max_inf
    rw [decide_eq_true k]
    clear k h
    go_enter Tryz.func239, Tryz.ntmps239
    go_wp2_with fail
    go_ret
    exact ⟨rfl, rfl⟩
  · have hq : (FloatKind.f64.format.order r 9218868437227405311 == some .gt) = false := order_max (by omega)
    rw [decide_eq_false k]
    clear k h
    go_enter Tryz.func239, Tryz.ntmps239
    go_wp2_with fail
    go_ret
    exact ⟨rfl, rfl⟩
set_option maxRecDepth 100000 in
theorem normalize_big (r : Nat) (h : 4503599627370496 ≤ r) (hi : r < 9218868437227405312) (w : World) : Calls Tryz.prog 265 #[.float .f64 r] w fun e w' => e = .returned (.tuple #[.float .f64 r, .int .i64 0]) ∧ w = w' := by
  have ha := abs_calls r (by omega)
  rw [absW_f (by omega)] at ha
  have HA := Lib.hid ha
  clear ha
  have hq : (FloatKind.f64.format.order r 4503599627370496 == some .lt) = false := by
    rw [f64_order]
    by_cases k : r = 4503599627370496
    · subst k; rw [order_eq (by decide)]; rfl
    · rw [order_gt (by omega) (by omega)]; rfl
  clear h hi
  go_enter Tryz.func265, Tryz.ntmps265
  go_wp2_with fail
  refine (HA.out _).mono ?_
  rintro e w1 ⟨rfl, rfl⟩
  go_wp2_with fail
  go_ret2
  exact ⟨rfl, rfl⟩
set_option maxRecDepth 100000 in
theorem normalize_small (r : Nat) (h0 : r ≠ 0) (h : r < 4503599627370496) (w : World) : Calls Tryz.prog 265 #[.float .f64 r] w fun e w' => e = .returned (.tuple #[.float .f64 (rung (nM r) (nE r + 52)), .int .i64 (-52)]) ∧ w = w' := by
  have ha := abs_calls r (by omega)
  rw [absW_f (by omega)] at ha
  have HA := Lib.hid ha
  clear ha
  have hq : (FloatKind.f64.format.order r 4503599627370496 == some .lt) = true := by
    rw [f64_order, order_lt h (by decide)]; rfl
  have hr := fun W => run_float_arith (P := Tryz.prog) W .mul 159 .f64 r 4841369599423283200 _ (up52 h0 h)
  generalize rung (nM r) (nE r + 52) = y at *
  clear h0 h
  go_enter Tryz.func265, Tryz.ntmps265
  go_wp2_with fail
  refine (HA.out _).mono ?_
  rintro e w1 ⟨rfl, rfl⟩
  go_wp2_with fail
  go_ret2
  exact ⟨rfl, rfl⟩
/-- normalize of a finite number that is not 0: its fields are at hand. -/
theorem normalize_calls (r : Nat) (h0 : r ≠ 0) (hi : r < 9218868437227405312) : ∃ (q f : Nat) (e : Int), 1 ≤ q ∧ q ≤ 2046 ∧ f < 4503599627370496 ∧ nM r = 4503599627370496 + f ∧ nE r = (q : Int) - 1075 + e ∧ -52 ≤ e ∧ e ≤ 0 ∧
    ∀ w, Calls Tryz.prog 265 #[.float .f64 r] w fun e1 w' => e1 = .returned (.tuple #[.float .f64 (q * 4503599627370496 + f), .int .i64 e]) ∧ w = w' := by
  have hb := nM_bd h0 hi
  have hE := nE_bd hi
  by_cases k : r < 4503599627370496
  · have hlo : -1074 ≤ nE r + 52 := by omega
    have hhi : nE r + 52 ≤ 971 := by
      have : nE r = -1074 - (52 - r.log2 : Nat) := by unfold nE nK rE; rw [if_pos k, if_pos k]
      omega
    refine ⟨(nE r + 52 + 1075).toNat, nM r - 4503599627370496, -52, by omega, by omega, by omega, by omega, by omega, by omega, by omega, fun w => ?_⟩
    rw [norm_word _ _ hb.1 hb.2 hlo hhi]
    exact normalize_small r h0 k w
  · have hlo := hE.2.2 (by omega)
    have e1 : nM r = rM r := by unfold nM nK; rw [if_neg k, Nat.pow_zero, Nat.mul_one]
    have e2 : nE r = rE r := by unfold nE nK; rw [if_neg k]; simp
    refine ⟨(nE r + 1075).toNat, nM r - 4503599627370496, 0, by omega, by omega, by omega, by omega, by omega, by omega, by omega, fun w => ?_⟩
    rw [norm_word _ _ hb.1 hb.2 hlo hE.2.1, e1, e2, rung_back hi]
    exact normalize_big r (by omega) hi w
theorem order_zero {r : Nat} (h0 : r ≠ 0) (hi : r ≤ 9218868437227405312) : (FloatKind.f64.format.order r 0 == some .eq) = false := by
  rw [f64_order, order_gt (by omega) hi]; rfl
theorem isN_f {r : Nat} (hi : r ≤ 9218868437227405312) : isN r = false := by
  unfold isN
  by_cases k : r = 9218868437227405312
  · subst k; rw [read_nn_inf]; rfl
  · rw [read_nn (by omega)]; rfl
theorem bits_exp (q f : Nat) (hq : q ≤ 2046) (hf : f < 4503599627370496) : bits .and .u64 (((q : Int) * 4503599627370496 + (f : Int)) / 4503599627370496) 2047 = (q : Int) := by
  have e : ((q : Int) * 4503599627370496 + (f : Int)) / 4503599627370496 = ((q : Nat) : Int) := by omega
  rw [e]
  have k := u64_and_nat q 2047 (by omega) (by decide)
  rw [and_2047, Nat.mod_eq_of_lt (by omega)] at k
  exact k
theorem bits_clear (q f : Nat) (hq : q ≤ 2046) (hf : f < 4503599627370496) : bits .andNot .u64 ((q : Int) * 4503599627370496 + (f : Int)) 9218868437227405312 = (f : Int) := by
  have k := u64_andNot_nat (q * 4503599627370496 + f) 9218868437227405312 (by omega) (by decide)
  have c := clear_exp false (q * 4503599627370496 + f) (by omega)
  rw [word_f, word_f] at c
  have e : (q * 4503599627370496 + f) % 4503599627370496 = f := by omega
  rw [show 18446744073709551615 - 9218868437227405312 = 9227875636482146303 from rfl, c, e] at k
  have e2 : ((q * 4503599627370496 + f : Nat) : Int) = (q : Int) * 4503599627370496 + (f : Int) := by omega
  rw [e2] at k
  exact k
theorem bits_set (f e : Nat) (hf : f < 4503599627370496) (he : e < 2048) : bits .or .u64 (f : Int) ((e * 4503599627370496 : Nat) : Int) = ((e * 4503599627370496 + f : Nat) : Int) := by
  have k := u64_or_nat f (e * 4503599627370496) (by omega) (by omega)
  rw [or_exp e f hf] at k
  exact k
theorem ret_fi {a c : Nat} {b d : Int} (h : a = c) (k : b = d) : Ending.returned (.tuple #[.float .f64 a, .int .i64 b]) = .returned (.tuple #[.float .f64 c, .int .i64 d]) := by rw [h, k]
theorem frexp_frac (q f : Nat) (hq : q ≤ 2046) (hf : f < 4503599627370496) : (bits .or .u64 (bits .andNot .u64 ((q : Int) * 4503599627370496 + (f : Int)) 9218868437227405312) 4602678819172646912).toNat = 4602678819172646912 + (4503599627370496 + f - 4503599627370496) := by
  rw [bits_clear q f hq hf]
  have k := bits_set f 1022 hf (by decide)
  rw [show 1022 * 4503599627370496 = 4602678819172646912 from rfl] at k
  have k2 : bits .or .u64 (f : Int) 4602678819172646912 = ((4602678819172646912 + f : Nat) : Int) := k
  rw [k2]
  omega
set_option maxRecDepth 100000 in
theorem frexp_in (r : Nat) (h0 : r ≠ 0) (hi : r < 9218868437227405312) (w : World) : Calls Tryz.prog 254 #[.float .f64 r] w fun e w' => e = .returned (.tuple #[.float .f64 (4602678819172646912 + (nM r - 4503599627370496)), .int .i64 (nE r + 53)]) ∧ w = w' := by
  have hz := order_zero h0 (Nat.le_of_lt hi)
  have hI := isinf0_calls r (Nat.le_of_lt hi)
  rw [decide_eq_false (by omega)] at hI
  have HI := Lib.hid hI
  have HN := Lib.hid (isnan_calls r false (isN_f (Nat.le_of_lt hi)))
  obtain ⟨q, f, e, q1, q2, hf, hM, hE, e1, e2, hn⟩ := normalize_calls r h0 hi
  have HZ := Lib.hid hn
  clear hn hI
  rw [hM, hE]
  clear hM hE h0 hi
  go_enter Tryz.func254, Tryz.ntmps254
  go_wp2_with fail
  refine (HI.out _).mono ?_
  rintro e w1 ⟨rfl, rfl⟩
  go_wp2_with fail
  refine (HN.out _).mono ?_
  rintro e w1 ⟨rfl, rfl⟩
  go_wp2_with fail
  refine (HZ.out _).mono ?_
  rintro e w1 ⟨rfl, rfl⟩
  go_wp2_with fail
  go_ret2
  exact ⟨ret_fi (frexp_frac q f q2 hf) (by rw [bits_exp q f q2 hf]; unfold wrap64; omega), rfl⟩
theorem frexp_calls (r : Nat) (h0 : r ≠ 0) (hi : r < 9218868437227405312) (w : World) : Calls Tryz.prog 240 #[.float .f64 r] w fun e w' => e = .returned (.tuple #[.float .f64 (4602678819172646912 + (nM r - 4503599627370496)), .int .i64 (nE r + 53)]) ∧ w = w' := by
  have h := Lib.hid (frexp_in r h0 hi)
  generalize 4602678819172646912 + (nM r - 4503599627370496) = y at *
  generalize nE r + 53 = z at *
  clear h0 hi
  go_enter Tryz.func240, Tryz.ntmps240
  go_wp2_with fail
  refine (h.out _).mono ?_
  rintro e w1 ⟨rfl, rfl⟩
  go_wp2_with fail
  go_ret2
  exact ⟨rfl, rfl⟩
end Go.Proofs.YtegcecpmdgljpaaGreatDoor

namespace Go.Proofs.YtegcecpmdgljpaaGreatDoor
open Go.RowKit Ieee
set_option linter.unusedVariables false

theorem mul_pow (e : Int) (he : -1022 ≤ e ∧ e ≤ 1023) (T f : Nat) (h1 : 1 ≤ T) (h2 : T ≤ 2046) (hf : f < 4503599627370496) :
    floatBits .mul .f64 ((e + 1023).toNat * 4503599627370496) (T * 4503599627370496 + f) = some (double.nearest false (4503599627370496 + f) ((T : Int) - 1075 + e)) := by
  show double.mul _ _ = _
  obtain ⟨e1, e2⟩ := pow_word e he
  have e3 : rM (T * 4503599627370496 + f) = 4503599627370496 + f := by
    unfold rM
    rw [if_neg (by omega)]; omega
  have e4 : rE (T * 4503599627370496 + f) = (T : Int) - 1075 := by
    unfold rE
    rw [if_neg (by omega)]; omega
  rw [mul_nn (by omega) (by omega), e1, e2, e3, e4, Nat.mul_comm]
  have k := nearest_shift false (4503599627370496 + f) 52 ((T : Int) - 1075 + e) (by omega)
  have c : (2 : Nat) ^ 52 = 4503599627370496 := by decide
  rw [c] at k
  rw [← k]
  congr 2
  omega
set_option maxRecDepth 100000 in
theorem copysign_zero (y : Nat) (h : y < 9223372036854775808) (w : World) : Calls Tryz.prog 266 #[.float .f64 0, .float .f64 y] w fun e w' => e = .returned (.float .f64 0) ∧ w = w' := by
  have h1 : bits .andNot .u64 0 9223372036854775808 = 0 := by decide +kernel
  have h2 : bits .and .u64 (y : Int) 9223372036854775808 = 0 := by
    have k := u64_and_nat y 9223372036854775808 (by omega) (by decide)
    have c := and_sign false y h
    rw [word_f, word_f] at c
    rw [c] at k
    exact k
  have h3 : bits .or .u64 0 0 = 0 := by decide +kernel
  clear h
  go_enter Tryz.func266, Tryz.ntmps266
  go_wp2
  go_ret
  exact ⟨rfl, rfl⟩
set_option maxRecDepth 100000 in
theorem inf_calls (w : World) : Calls Tryz.prog 267 #[.int .i64 1] w fun e w' => e = .returned (.float .f64 9218868437227405312) ∧ w = w' := by
  go_enter Tryz.func267, Tryz.ntmps267
  go_wp2
  go_ret
  exact ⟨rfl, rfl⟩
theorem and_i64_all : ∀ q : Fin 2048, bits .and .i64 ((q.val : Nat) : Int) 2047 = ((q.val : Nat) : Int) := by decide +kernel
theorem bits_exp_i (q f : Nat) (hq : q ≤ 2046) (hf : f < 4503599627370496) : bits .and .i64 (((q : Int) * 4503599627370496 + (f : Int)) / 4503599627370496) 2047 = (q : Int) := by
  have e : ((q : Int) * 4503599627370496 + (f : Int)) / 4503599627370496 = ((q : Nat) : Int) := by omega
  rw [e]
  exact and_i64_all ⟨q, by omega⟩
set_option maxRecDepth 100000 in
theorem ldexp_tiny (r : Nat) (h0 : r ≠ 0) (hi : r < 9218868437227405312) (p : Int) (hp : -20000 ≤ p ∧ p ≤ 20000) (hc : nE r + p < -1127) (w : World) :
    Calls Tryz.prog 256 #[.float .f64 r, .int .i64 p] w fun e w' => e = .returned (.float .f64 0) ∧ w = w' := by
  have hz := order_zero h0 (Nat.le_of_lt hi)
  have hI := isinf0_calls r (Nat.le_of_lt hi)
  rw [decide_eq_false (by omega)] at hI
  have HI := Lib.hid hI
  have HN := Lib.hid (isnan_calls r false (isN_f (Nat.le_of_lt hi)))
  obtain ⟨q, f, e, q1, q2, hf, hM, hE, e1, e2, hn⟩ := normalize_calls r h0 hi
  have HZ := Lib.hid hn
  clear hn hI
  have hb := bits_exp_i q f q2 hf
  have hC := Lib.hid (copysign_zero (q * 4503599627370496 + f) (by omega))
  rw [hE] at hc
  clear hM hE h0 hi
  obtain ⟨p1, p2⟩ := hp
  go_enter Tryz.func256, Tryz.ntmps256
  go_wp2_with fail
  refine (HI.out _).mono ?_
  rintro e w1 ⟨rfl, rfl⟩
  go_wp2_with fail
  refine (HN.out _).mono ?_
  rintro e w1 ⟨rfl, rfl⟩
  go_wp2_with fail
  refine (HZ.out _).mono ?_
  rintro e w1 ⟨rfl, rfl⟩
  go_wp2_with fail
  refine (hC.out _).mono ?_
  rintro e w1 ⟨rfl, rfl⟩
  go_wp2_with fail
  go_ret
  exact ⟨rfl, rfl⟩
set_option maxRecDepth 100000 in
theorem ldexp_huge (r : Nat) (h0 : r ≠ 0) (hi : r < 9218868437227405312) (p : Int) (hp : -20000 ≤ p ∧ p ≤ 20000) (hc : 971 < nE r + p) (w : World) :
    Calls Tryz.prog 256 #[.float .f64 r, .int .i64 p] w fun e w' => e = .returned (.float .f64 9218868437227405312) ∧ w = w' := by
  have hz := order_zero h0 (Nat.le_of_lt hi)
  have hI := isinf0_calls r (Nat.le_of_lt hi)
  rw [decide_eq_false (by omega)] at hI
  have HI := Lib.hid hI
  have HN := Lib.hid (isnan_calls r false (isN_f (Nat.le_of_lt hi)))
  obtain ⟨q, f, e, q1, q2, hf, hM, hE, e1, e2, hn⟩ := normalize_calls r h0 hi
  have HZ := Lib.hid hn
  clear hn hI
  have hb := bits_exp_i q f q2 hf
  have hC := Lib.hid (inf_calls)
  have hl : (FloatKind.f64.format.order (q * 4503599627370496 + f) 0 == some .lt) = false := by
    rw [f64_order, order_gt (by omega) (by omega)]; rfl
  rw [hE] at hc
  clear hM hE h0 hi
  obtain ⟨p1, p2⟩ := hp
  go_enter Tryz.func256, Tryz.ntmps256
  go_wp2_with fail
  refine (HI.out _).mono ?_
  rintro e w1 ⟨rfl, rfl⟩
  go_wp2_with fail
  refine (HN.out _).mono ?_
  rintro e w1 ⟨rfl, rfl⟩
  go_wp2_with fail
  refine (HZ.out _).mono ?_
  rintro e w1 ⟨rfl, rfl⟩
  go_wp2_with fail
  refine (hC.out _).mono ?_
  rintro e w1 ⟨rfl, rfl⟩
  go_wp2_with fail
  go_ret
  exact ⟨rfl, rfl⟩
set_option maxRecDepth 100000 in
theorem ldexp_sub (r : Nat) (h0 : r ≠ 0) (hi : r < 9218868437227405312) (p : Int) (hp : -20000 ≤ p ∧ p ≤ 20000) (hc : -1127 ≤ nE r + p ∧ nE r + p < -1074) (w : World) :
    Calls Tryz.prog 256 #[.float .f64 r, .int .i64 p] w fun e w' => e = .returned (.float .f64 (double.nearest false (nM r) (nE r + p))) ∧ w = w' := by
  have hz := order_zero h0 (Nat.le_of_lt hi)
  have hI := isinf0_calls r (Nat.le_of_lt hi)
  rw [decide_eq_false (by omega)] at hI
  have HI := Lib.hid hI
  have HN := Lib.hid (isnan_calls r false (isN_f (Nat.le_of_lt hi)))
  obtain ⟨q, f, e, q1, q2, hf, hM, hE, e1, e2, hn⟩ := normalize_calls r h0 hi
  have HZ := Lib.hid hn
  clear hn hI
  have hb := bits_exp_i q f q2 hf
  have hcl := bits_clear q f q2 hf
  have hl : (FloatKind.f64.format.order (q * 4503599627370496 + f) 0 == some .lt) = false := by
    rw [f64_order, order_gt (by omega) (by omega)]; rfl
  obtain ⟨T, hT⟩ : ∃ T : Nat, (T : Int) = p + e + (q : Int) + 53 := ⟨(p + e + (q : Int) + 53).toNat, by omega⟩
  have T1 : 1 ≤ T := by omega
  have T2 : T ≤ 2046 := by omega
  have hm := mul_pow (-53) (by decide) T f T1 T2 hf
  rw [show (((-53) : Int) + 1023).toNat * 4503599627370496 = 4368491638549381120 by decide +kernel] at hm
  have hs := bits_set f T hf (by omega)
  obtain ⟨Y, hY⟩ : ∃ Y, Y = T * 4503599627370496 + f := ⟨_, rfl⟩
  rw [← hY] at hm hs
  have hr := fun W => run_float_arith (P := Tryz.prog) W .mul 159 .f64 _ _ _ hm
  have hsp : ((T * 4503599627370496 : Nat) : Int) = (p + e + ((q : Int) - 1023) + 53 + 1023) * 4503599627370496 := by omega
  rw [hsp] at hs
  have hTT : ((T : Int) - 1075 + (-53)) = nE r + p := by omega
  rw [hM, ← hTT]
  generalize double.nearest false (4503599627370496 + f) ((T : Int) - 1075 + (-53)) = res at *
  rw [hE] at hc
  clear hM hE h0 hi hm hTT hT hY hsp T1 T2
  clear T
  obtain ⟨p1, p2⟩ := hp
  obtain ⟨c1, c2⟩ := hc
  go_enter Tryz.func256, Tryz.ntmps256
  go_wp2_with fail
  refine (HI.out _).mono ?_
  rintro e w1 ⟨rfl, rfl⟩
  go_wp2_with fail
  refine (HN.out _).mono ?_
  rintro e w1 ⟨rfl, rfl⟩
  go_wp2_with fail
  refine (HZ.out _).mono ?_
  rintro e w1 ⟨rfl, rfl⟩
  go_wp2_with fail
  go_ret
  exact ⟨rfl, rfl⟩
set_option maxRecDepth 100000 in
theorem ldexp_norm (r : Nat) (h0 : r ≠ 0) (hi : r < 9218868437227405312) (p : Int) (hp : -20000 ≤ p ∧ p ≤ 20000) (hc : -1074 ≤ nE r + p ∧ nE r + p ≤ 971) (w : World) :
    Calls Tryz.prog 256 #[.float .f64 r, .int .i64 p] w fun e w' => e = .returned (.float .f64 (double.nearest false (nM r) (nE r + p))) ∧ w = w' := by
  have hz := order_zero h0 (Nat.le_of_lt hi)
  have hI := isinf0_calls r (Nat.le_of_lt hi)
  rw [decide_eq_false (by omega)] at hI
  have HI := Lib.hid hI
  have HN := Lib.hid (isnan_calls r false (isN_f (Nat.le_of_lt hi)))
  obtain ⟨q, f, e, q1, q2, hf, hM, hE, e1, e2, hn⟩ := normalize_calls r h0 hi
  have HZ := Lib.hid hn
  clear hn hI
  have hb := bits_exp_i q f q2 hf
  have hcl := bits_clear q f q2 hf
  have hl : (FloatKind.f64.format.order (q * 4503599627370496 + f) 0 == some .lt) = false := by
    rw [f64_order, order_gt (by omega) (by omega)]; rfl
  obtain ⟨T, hT⟩ : ∃ T : Nat, (T : Int) = p + e + (q : Int) + 0 := ⟨(p + e + (q : Int) + 0).toNat, by omega⟩
  have T1 : 1 ≤ T := by omega
  have T2 : T ≤ 2046 := by omega
  have hm := mul_pow 0 (by decide) T f T1 T2 hf
  rw [show ((0 : Int) + 1023).toNat * 4503599627370496 = 4607182418800017408 by decide +kernel] at hm
  have hs := bits_set f T hf (by omega)
  obtain ⟨Y, hY⟩ : ∃ Y, Y = T * 4503599627370496 + f := ⟨_, rfl⟩
  rw [← hY] at hm hs
  have hr := fun W => run_float_arith (P := Tryz.prog) W .mul 159 .f64 _ _ _ hm
  have hsp : ((T * 4503599627370496 : Nat) : Int) = (p + e + ((q : Int) - 1023) + 1023) * 4503599627370496 := by omega
  rw [hsp] at hs
  have hTT : ((T : Int) - 1075 + 0) = nE r + p := by omega
  rw [hM, ← hTT]
  generalize double.nearest false (4503599627370496 + f) ((T : Int) - 1075 + 0) = res at *
  rw [hE] at hc
  clear hM hE h0 hi hm hTT hT hY hsp T1 T2
  clear T
  obtain ⟨p1, p2⟩ := hp
  obtain ⟨c1, c2⟩ := hc
  go_enter Tryz.func256, Tryz.ntmps256
  go_wp2_with fail
  refine (HI.out _).mono ?_
  rintro e w1 ⟨rfl, rfl⟩
  go_wp2_with fail
  refine (HN.out _).mono ?_
  rintro e w1 ⟨rfl, rfl⟩
  go_wp2_with fail
  refine (HZ.out _).mono ?_
  rintro e w1 ⟨rfl, rfl⟩
  go_wp2_with fail
  go_ret
  exact ⟨rfl, rfl⟩
end Go.Proofs.YtegcecpmdgljpaaGreatDoor
