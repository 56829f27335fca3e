/- The document's answers for layer 4: the text of any cell. Condition: cells are integers of 64 bits. -/
import Derived.Test.YthmdobajilladaaDoorR4Y
namespace Go.Proofs.YthmdobajilladaaDoor
open Go.RowKit
set_option linter.unusedVariables false
open Ieee (double)

set_option maxRecDepth 100000 in
theorem rtext_nan (f : Int) (hf : I64 f) (h : isN (fbits f) = true) (w : World) :
    Calls Tryd.prog 12 #[.int .i64 f] w fun e w' => e = .returned (.string ⟨#[110, 97, 110]⟩) ∧ Ext w w' := by
  obtain ⟨s, m, ho⟩ := ropen_wnan f hf h
  have HO := Lib.hid ho
  clear ho h hf
  go_enter Tryd.func12, Tryd.ntmps12
  go_wp2_with fail
  refine (HO.out _).mono ?_
  rintro e w1 ⟨rfl, hw1⟩
  have o := Own4.last (X := w1) (k := Value.int .i64 0) (n := Value.bool s) (m := Value.int .u64 m) (e := Value.int .i64 0) (t := 58)
  have hX := hw1.cells #[Value.int .i64 0, Value.bool s, Value.int .u64 m, Value.int .i64 0] 58
  clear hw1
  go_wp2_with fail
  go_ret
  exact ⟨rfl, hX⟩
theorem sgn_add (T c : ByteArray) (h : T.size + c.size ≤ 10) (W : World) : (Op.stringOp .add T c).run Tryd.prog W = .ok (.string (T ++ c)) W := run_string_add_sum W _ _ (by omega)
set_option maxRecDepth 100000 in
theorem rtext_inf (f : Int) (hf : I64 f) (s : Bool) (hx : fbits f = double.word s 9218868437227405312) (w : World) :
    Calls Tryd.prog 12 #[.int .i64 f] w fun e w' => e = .returned (.string ⟨(realText s 9218868437227405312).toArray⟩) ∧ Ext w w' := by
  have HO := Lib.hid (ropen_winf f hf s hx)
  clear hf hx
  cases s
  case true =>
    have hr : (⟨(realText true 9218868437227405312).toArray⟩ : ByteArray) = ⟨#[45, 105, 110, 102]⟩ := rfl
    rw [hr]
    clear hr
    go_enter Tryd.func12, Tryd.ntmps12
    go_wp2_with fail
    refine (HO.out _).mono ?_
    rintro e w1 ⟨rfl, hw1⟩
    have o := Own4.last (X := w1) (k := Value.int .i64 1) (n := Value.bool true) (m := Value.int .u64 0) (e := Value.int .i64 0) (t := 58)
    have hX := hw1.cells #[Value.int .i64 1, Value.bool true, Value.int .u64 0, Value.int .i64 0] 58
    clear hw1
    go_wp2_with fail
    go_ret
    exact ⟨rfl, hX⟩
  case false =>
    have hr : (⟨(realText false 9218868437227405312).toArray⟩ : ByteArray) = ⟨#[105, 110, 102]⟩ := rfl
    rw [hr]
    clear hr
    go_enter Tryd.func12, Tryd.ntmps12
    go_wp2_with fail
    refine (HO.out _).mono ?_
    rintro e w1 ⟨rfl, hw1⟩
    have o := Own4.last (X := w1) (k := Value.int .i64 1) (n := Value.bool false) (m := Value.int .u64 0) (e := Value.int .i64 0) (t := 58)
    have hX := hw1.cells #[Value.int .i64 1, Value.bool false, Value.int .u64 0, Value.int .i64 0] 58
    clear hw1
    go_wp2_with fail
    go_ret
    exact ⟨rfl, hX⟩
set_option maxRecDepth 100000 in
theorem rtext_zero (f : Int) (hf : I64 f) (s : Bool) (hx : fbits f = double.word s 0) (w : World) :
    Calls Tryd.prog 12 #[.int .i64 f] w fun e w' => e = .returned (.string ⟨(realText s 0).toArray⟩) ∧ Ext w w' := by
  have ho := ropen_word f hf s 0 hx (by decide)
  have e1 : ((rM 0 : Nat) : Int) = 0 := by decide
  have e2 : rE 0 = -1074 := by decide
  rw [e1, e2] at ho
  have HO := Lib.hid ho
  clear hf hx ho e1 e2
  cases s
  case true =>
    have hr : (⟨(realText true 0).toArray⟩ : ByteArray) = ⟨#[45, 48, 112, 48]⟩ := rfl
    rw [hr]
    clear hr
    go_enter Tryd.func12, Tryd.ntmps12
    go_wp2_with fail
    refine (HO.out _).mono ?_
    rintro e w1 ⟨rfl, hw1⟩
    have o := Own4.last (X := w1) (k := Value.int .i64 2) (n := Value.bool true) (m := Value.int .u64 0) (e := Value.int .i64 (-1074)) (t := 58)
    have hX := hw1.cells #[Value.int .i64 2, Value.bool true, Value.int .u64 0, Value.int .i64 (-1074)] 58
    clear hw1
    go_wp2_with fail
    go_ret
    exact ⟨rfl, hX⟩
  case false =>
    have hr : (⟨(realText false 0).toArray⟩ : ByteArray) = ⟨#[48, 112, 48]⟩ := rfl
    rw [hr]
    clear hr
    go_enter Tryd.func12, Tryd.ntmps12
    go_wp2_with fail
    refine (HO.out _).mono ?_
    rintro e w1 ⟨rfl, hw1⟩
    have o := Own4.last (X := w1) (k := Value.int .i64 2) (n := Value.bool false) (m := Value.int .u64 0) (e := Value.int .i64 (-1074)) (t := 58)
    have hX := hw1.cells #[Value.int .i64 2, Value.bool false, Value.int .u64 0, Value.int .i64 (-1074)] 58
    clear hw1
    go_wp2_with fail
    go_ret
    exact ⟨rfl, hX⟩
/-- The document's text of a number. -/
theorem rtext_word (f : Int) (hf : I64 f) (s : Bool) (r : Nat) (hx : fbits f = double.word s r) (h : r ≤ 9218868437227405312) (w : World) :
    Calls Tryd.prog 12 #[.int .i64 f] w fun e w' => e = .returned (.string ⟨(realText s r).toArray⟩) ∧ Ext w w' := by
  by_cases h0 : r = 0
  · subst h0; exact rtext_zero f hf s hx w
  · by_cases h1 : r = 9218868437227405312
    · subst h1; exact rtext_inf f hf s hx w
    · exact rtext_fin f hf s r hx h0 (by omega) w
end Go.Proofs.YthmdobajilladaaDoor
