/- Layer 4 (package real): order, least and greatest, signs, whole numbers. No condition. -/
import Derived.Test.YthmdobajilladaaDoorR4A
import Derived.Test.YthmdobajilladaaDoorJF
namespace Go.Proofs.YthmdobajilladaaDoor
open Go.RowKit Ieee
set_option linter.unusedVariables false

def truthI (b : Bool) : Int := if b then -1 else 0
theorem truth_prog (b : Bool) (w : World) : Calls Tryd.prog 36 #[.bool b] w fun e w' => e = .returned (.int .i64 (truthI b)) ∧ w = w' := by
  cases b <;> (go_enter Tryd.func36, Tryd.ntmps36; go_wp2; go_ret; exact ⟨rfl, rfl⟩)
set_option maxRecDepth 100000 in
theorem two_less (a b : Int) (w : World) : Calls Tryd.prog 14 #[.int .i64 9, .int .i64 a, .int .i64 b] w fun e w' => e = .returned (.tuple #[.int .i64 (truthI (double.order (fbits a) (fbits b) == some .lt)), .int .i64 0]) ∧ Ext w w' := by
  have ha := Lib.hid (tofloat_calls a)
  have hb := Lib.hid (tofloat_calls b)
  generalize fbits a = x at *
  generalize fbits b = y at *
  obtain ⟨c, hc⟩ : ∃ c, c = (FloatKind.f64.format.order x y == some .lt) := ⟨_, rfl⟩
  have hr : (FloatKind.f64.format.order x y == some .lt) = c := hc.symm
  have ht := Lib.hid (truth_prog c)
  have e : (double.order x y == some .lt) = c := hr
  rw [e]
  clear e hc
  go_enter Tryd.func14, Tryd.ntmps14
  go_wp2_with fail
  refine (ha.out _).mono ?_
  rintro e w1 ⟨rfl, rfl⟩
  go_wp2_with fail
  refine (hb.out _).mono ?_
  rintro e w1 ⟨rfl, rfl⟩
  go_wp2_with fail
  refine (ht.out _).mono ?_
  rintro e w1 ⟨rfl, rfl⟩
  go_wp2_with fail
  go_ret2
  exact ⟨rfl, Ext.refl _⟩
set_option maxRecDepth 100000 in
theorem two_equal (a b : Int) (w : World) : Calls Tryd.prog 14 #[.int .i64 10, .int .i64 a, .int .i64 b] w fun e w' => e = .returned (.tuple #[.int .i64 (truthI (double.order (fbits a) (fbits b) == some .eq)), .int .i64 0]) ∧ Ext w w' := by
  have ha := Lib.hid (tofloat_calls a)
  have hb := Lib.hid (tofloat_calls b)
  generalize fbits a = x at *
  generalize fbits b = y at *
  obtain ⟨c, hc⟩ : ∃ c, c = (FloatKind.f64.format.order x y == some .eq) := ⟨_, rfl⟩
  have hr : (FloatKind.f64.format.order x y == some .eq) = c := hc.symm
  have ht := Lib.hid (truth_prog c)
  have e : (double.order x y == some .eq) = c := hr
  rw [e]
  clear e hc
  go_enter Tryd.func14, Tryd.ntmps14
  go_wp2_with fail
  refine (ha.out _).mono ?_
  rintro e w1 ⟨rfl, rfl⟩
  go_wp2_with fail
  refine (hb.out _).mono ?_
  rintro e w1 ⟨rfl, rfl⟩
  go_wp2_with fail
  refine (ht.out _).mono ?_
  rintro e w1 ⟨rfl, rfl⟩
  go_wp2_with fail
  go_ret2
  exact ⟨rfl, Ext.refl _⟩

def minW (x y : Nat) : Option Nat := match double.order x y with
  | none => none
  | some .lt => some x
  | some .gt => some y
  | some .eq => some (if (double.read x).neg then x else y)
def maxW (x y : Nat) : Option Nat := match double.order x y with
  | none => none
  | some .lt => some y
  | some .gt => some x
  | some .eq => some (if (double.read x).neg then y else x)
theorem run_min_some (ts : Array TypeId) (t : TypeId) (x y r : Nat) (h : minW x y = some r) (w : World) : (Builtin.min_ ts t #[.float .f64 x, .float .f64 y]).run Tryd.prog w = .ok (.float .f64 r) w := by
  have e : FloatKind.f64.format.order x y = double.order x y := rfl
  have d : FloatKind.f64.decode x = double.read x := rfl
  unfold minW at h
  cases k : double.order x y with
  | none => rw [k] at h; cases h
  | some o => rw [k] at h; cases o <;> (simp only [Option.some.injEq] at h; subst h; simp [Builtin.min_, Builtin.min2, e, k, d])
theorem run_max_some (ts : Array TypeId) (t : TypeId) (x y r : Nat) (h : maxW x y = some r) (w : World) : (Builtin.max_ ts t #[.float .f64 x, .float .f64 y]).run Tryd.prog w = .ok (.float .f64 r) w := by
  have e : FloatKind.f64.format.order x y = double.order x y := rfl
  have d : FloatKind.f64.decode x = double.read x := rfl
  unfold maxW at h
  cases k : double.order x y with
  | none => rw [k] at h; cases h
  | some o => rw [k] at h; cases o <;> (simp only [Option.some.injEq] at h; subst h; simp [Builtin.max_, Builtin.max2, e, k, d])
theorem run_min_none (ts : Array TypeId) (t : TypeId) (x y : Nat) (h : minW x y = none) (w : World) : ∃ r, isN r = true ∧ (Builtin.min_ ts t #[.float .f64 x, .float .f64 y]).run Tryd.prog w = .ok (.float .f64 r) w.drew := by
  have e : FloatKind.f64.format.order x y = double.order x y := rfl
  refine ⟨_, nan_word (w.tape w.drawn (.nanMinMax .f64 false x y)), ?_⟩
  unfold minW at h
  cases k : double.order x y with
  | none => simp [Builtin.min_, Builtin.min2, e, k, Question.cut, Question.forced]
  | some o => rw [k] at h; cases o <;> cases h
theorem run_max_none (ts : Array TypeId) (t : TypeId) (x y : Nat) (h : maxW x y = none) (w : World) : ∃ r, isN r = true ∧ (Builtin.max_ ts t #[.float .f64 x, .float .f64 y]).run Tryd.prog w = .ok (.float .f64 r) w.drew := by
  have e : FloatKind.f64.format.order x y = double.order x y := rfl
  refine ⟨_, nan_word (w.tape w.drawn (.nanMinMax .f64 true x y)), ?_⟩
  unfold maxW at h
  cases k : double.order x y with
  | none => simp [Builtin.max_, Builtin.max2, e, k, Question.cut, Question.forced]
  | some o => rw [k] at h; cases o <;> cases h
set_option maxRecDepth 100000 in
theorem two_min (a b : Int) (w : World) : Calls Tryd.prog 14 #[.int .i64 7, .int .i64 a, .int .i64 b] w fun e w' => e = .returned (.tuple #[.int .i64 (resOf (minW (fbits a) (fbits b))), .int .i64 0]) ∧ Ext w w' := by
  have ha := Lib.hid (tofloat_calls a)
  have hb := Lib.hid (tofloat_calls b)
  generalize fbits a = x at *
  generalize fbits b = y at *
  cases h : minW x y with
  | none =>
    have hr0 := fun (ts : Array TypeId) (t : TypeId) (w : World) => run_min_none ts t x y h w
    obtain ⟨r, hn, hr⟩ : ∃ r : Array TypeId → TypeId → World → Nat, (∀ ts t w, isN (r ts t w) = true) ∧ ∀ ts t w, (Builtin.min_ ts t #[.float .f64 x, .float .f64 y]).run Tryd.prog w = .ok (.float .f64 (r ts t w)) w.drew :=
      ⟨fun ts t w => (hr0 ts t w).choose, fun ts t w => (hr0 ts t w).choose_spec.1, fun ts t w => (hr0 ts t w).choose_spec.2⟩
    have hc := Lib.hid fun ts t W => tocell_calls (r ts t W)
    have H := Lib.hid hn
    clear h hn hr0
    go_enter Tryd.func14, Tryd.ntmps14
    go_wp2_with fail
    refine (ha.out _).mono ?_
    rintro e w1 ⟨rfl, rfl⟩
    go_wp2_with fail
    refine (hb.out _).mono ?_
    rintro e w1 ⟨rfl, rfl⟩
    go_wp2_with fail
    refine (hc.out _ _ _ _).mono ?_
    rintro e w1 ⟨rfl, rfl⟩
    go_wp2_with fail
    go_ret2
    exact ⟨by rw [cell_nan (H.out _ _ _)]; rfl, (Ext.refl _).drew⟩
  | some r =>
    have hr := fun ts t W => run_min_some ts t x y r h W
    have hc := Lib.hid (tocell_calls r)
    clear h
    go_enter Tryd.func14, Tryd.ntmps14
    go_wp2_with fail
    refine (ha.out _).mono ?_
    rintro e w1 ⟨rfl, rfl⟩
    go_wp2_with fail
    refine (hb.out _).mono ?_
    rintro e w1 ⟨rfl, rfl⟩
    go_wp2_with fail
    refine (hc.out _).mono ?_
    rintro e w1 ⟨rfl, rfl⟩
    go_wp2_with fail
    go_ret2
    exact ⟨rfl, Ext.refl _⟩
set_option maxRecDepth 100000 in
theorem two_max (a b : Int) (w : World) : Calls Tryd.prog 14 #[.int .i64 8, .int .i64 a, .int .i64 b] w fun e w' => e = .returned (.tuple #[.int .i64 (resOf (maxW (fbits a) (fbits b))), .int .i64 0]) ∧ Ext w w' := by
  have ha := Lib.hid (tofloat_calls a)
  have hb := Lib.hid (tofloat_calls b)
  generalize fbits a = x at *
  generalize fbits b = y at *
  cases h : maxW x y with
  | none =>
    have hr0 := fun (ts : Array TypeId) (t : TypeId) (w : World) => run_max_none ts t x y h w
    obtain ⟨r, hn, hr⟩ : ∃ r : Array TypeId → TypeId → World → Nat, (∀ ts t w, isN (r ts t w) = true) ∧ ∀ ts t w, (Builtin.max_ ts t #[.float .f64 x, .float .f64 y]).run Tryd.prog w = .ok (.float .f64 (r ts t w)) w.drew :=
      ⟨fun ts t w => (hr0 ts t w).choose, fun ts t w => (hr0 ts t w).choose_spec.1, fun ts t w => (hr0 ts t w).choose_spec.2⟩
    have hc := Lib.hid fun ts t W => tocell_calls (r ts t W)
    have H := Lib.hid hn
    clear h hn hr0
    go_enter Tryd.func14, Tryd.ntmps14
    go_wp2_with fail
    refine (ha.out _).mono ?_
    rintro e w1 ⟨rfl, rfl⟩
    go_wp2_with fail
    refine (hb.out _).mono ?_
    rintro e w1 ⟨rfl, rfl⟩
    go_wp2_with fail
    refine (hc.out _ _ _ _).mono ?_
    rintro e w1 ⟨rfl, rfl⟩
    go_wp2_with fail
    go_ret2
    exact ⟨by rw [cell_nan (H.out _ _ _)]; rfl, (Ext.refl _).drew⟩
  | some r =>
    have hr := fun ts t W => run_max_some ts t x y r h W
    have hc := Lib.hid (tocell_calls r)
    clear h
    go_enter Tryd.func14, Tryd.ntmps14
    go_wp2_with fail
    refine (ha.out _).mono ?_
    rintro e w1 ⟨rfl, rfl⟩
    go_wp2_with fail
    refine (hb.out _).mono ?_
    rintro e w1 ⟨rfl, rfl⟩
    go_wp2_with fail
    refine (hc.out _).mono ?_
    rintro e w1 ⟨rfl, rfl⟩
    go_wp2_with fail
    go_ret2
    exact ⟨rfl, Ext.refl _⟩

/-- A float with its sign turned. -/
def negW (x : Nat) : Nat := x ^^^ 9223372036854775808
@[go_sem] theorem run_neg_float (x : Nat) (w : World) : (Op.unary .neg (.float .f64 x)).run Tryd.prog w = .ok (.float .f64 (negW x)) w := by
  have e : 2 ^ (FloatKind.f64.format.exponentBits + FloatKind.f64.format.fractionBits) = 9223372036854775808 := by decide +kernel
  show Result.ok (Value.float .f64 (x ^^^ 2 ^ (FloatKind.f64.format.exponentBits + FloatKind.f64.format.fractionBits))) w = _
  rw [e]
  rfl
set_option maxRecDepth 100000 in
theorem abs_calls (x : Nat) (hx : x < 18446744073709551616) (w : World) : Calls Tryd.prog 37 #[.float .f64 x] w fun e w' => e = .returned (.float .f64 (absW x)) ∧ w = w' := by
  have hb : bits .andNot .u64 (x : Int) 9223372036854775808 = (absW x : Int) := (u64_andNot_nat x 9223372036854775808 hx (by decide)).trans (by rw [show 18446744073709551615 - 9223372036854775808 = 9223372036854775807 from rfl, and_low]; rfl)
  go_enter Tryd.func37, Tryd.ntmps37
  go_wp2
  go_ret
  exact ⟨rfl, rfl⟩
set_option maxRecDepth 100000 in
theorem one_neg (a : Int) (w : World) : Calls Tryd.prog 19 #[.int .i64 1, .int .i64 a] w fun e w' => e = .returned (.tuple #[.int .i64 (cellOf (negW (fbits a))), .int .i64 0]) ∧ w = w' := by
  have ha := Lib.hid (tofloat_calls a)
  generalize fbits a = x at *
  have hc := Lib.hid (tocell_calls (negW x))
  go_enter Tryd.func19, Tryd.ntmps19
  go_wp2_with fail
  refine (ha.out _).mono ?_
  rintro e w1 ⟨rfl, rfl⟩
  go_wp2_with fail
  refine (hc.out _).mono ?_
  rintro e w1 ⟨rfl, rfl⟩
  go_wp2_with fail
  go_ret2
  exact ⟨rfl, rfl⟩
set_option maxRecDepth 100000 in
theorem one_abs (a : Int) (w : World) : Calls Tryd.prog 19 #[.int .i64 2, .int .i64 a] w fun e w' => e = .returned (.tuple #[.int .i64 (cellOf (absW (fbits a))), .int .i64 0]) ∧ w = w' := by
  have ha := Lib.hid (tofloat_calls a)
  have hl := fbits_lt a
  generalize fbits a = x at *
  have hx := Lib.hid (abs_calls x hl)
  have hc := Lib.hid (tocell_calls (absW x))
  clear hl
  go_enter Tryd.func19, Tryd.ntmps19
  go_wp2_with fail
  refine (ha.out _).mono ?_
  rintro e w1 ⟨rfl, rfl⟩
  go_wp2_with fail
  refine (hx.out _).mono ?_
  rintro e w1 ⟨rfl, rfl⟩
  go_wp2_with fail
  refine (hc.out _).mono ?_
  rintro e w1 ⟨rfl, rfl⟩
  go_wp2_with fail
  go_ret2
  exact ⟨rfl, rfl⟩
/-- A float as a cell, rounded towards 0, where it is one. -/
def intOfF (x : Nat) : Option Int := floatToIntVal .f64 x .i64
theorem to_no (a : Int) (h : (double.order (fbits a) 14114281232179134464 == some .gt || double.order (fbits a) 14114281232179134464 == some .eq) = false ∨ (double.order (fbits a) 4890909195324358656 == some .lt) = false) (w : World) :
    Calls Tryd.prog 16 #[.int .i64 a] w fun e w' => e = .returned (.tuple #[.int .i64 0, .int .i64 (-43)]) ∧ w = w' := by
  have ha := Lib.hid (tofloat_calls a)
  generalize fbits a = x at *
  obtain ⟨c, hc⟩ : ∃ c, (FloatKind.f64.format.order x 14114281232179134464 == some .gt || FloatKind.f64.format.order x 14114281232179134464 == some .eq) = c := ⟨_, rfl⟩
  obtain ⟨d, hd⟩ : ∃ d, (FloatKind.f64.format.order x 4890909195324358656 == some .lt) = d := ⟨_, rfl⟩
  have h' : c = false ∨ d = false := by rw [← hc, ← hd]; exact h
  clear h
  cases c with
  | false =>
    go_enter Tryd.func16, Tryd.ntmps16
    go_wp2_with fail
    refine (ha.out _).mono ?_
    rintro e w1 ⟨rfl, rfl⟩
    go_wp2_with fail
    go_ret2
    exact ⟨rfl, rfl⟩
  | true =>
    obtain rfl : d = false := by simpa using h'
    clear h'
    go_enter Tryd.func16, Tryd.ntmps16
    go_wp2_with fail
    refine (ha.out _).mono ?_
    rintro e w1 ⟨rfl, rfl⟩
    go_wp2_with fail
    go_ret2
    exact ⟨rfl, rfl⟩
theorem to_yes (a n : Int) (hc0 : (double.order (fbits a) 14114281232179134464 == some .gt || double.order (fbits a) 14114281232179134464 == some .eq) = true) (hd0 : (double.order (fbits a) 4890909195324358656 == some .lt) = true) (hn : intOfF (fbits a) = some n) (w : World) :
    Calls Tryd.prog 16 #[.int .i64 a] w fun e w' => e = .returned (.tuple #[.int .i64 n, .int .i64 0]) ∧ w = w' := by
  have ha := Lib.hid (tofloat_calls a)
  generalize fbits a = x at *
  have hc : (FloatKind.f64.format.order x 14114281232179134464 == some .gt || FloatKind.f64.format.order x 14114281232179134464 == some .eq) = true := hc0
  have hd : (FloatKind.f64.format.order x 4890909195324358656 == some .lt) = true := hd0
  have hr := fun W => run_convert_float_int (P := Tryd.prog) W 47 22 .f64 .i64 x n (by kernel_rfl) Tryd.underlying22 hn
  clear hc0 hd0 hn
  go_enter Tryd.func16, Tryd.ntmps16
  go_wp2_with fail
  refine (ha.out _).mono ?_
  rintro e w1 ⟨rfl, rfl⟩
  go_wp2_with fail
  go_ret2
  exact ⟨rfl, rfl⟩
end Go.Proofs.YthmdobajilladaaDoor
