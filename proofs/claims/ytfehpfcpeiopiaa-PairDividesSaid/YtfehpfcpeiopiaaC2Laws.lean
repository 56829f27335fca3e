/- Layer 2: the document's examples; a pair as an argument; what a call keeps. No condition. -/
import Derived.Test.YtfehpfcpeiopiaaRows
import Derived.Test.YtfehpfcpeiopiaaC2RefG
import Derived.Lib.SmallJoins
import Derived.ProofKit
import Derived.OpenShut
namespace Go.Proofs.Ytfehpfcpeiopiaa
open Go.ChangeShapes Go.WideShapes Go.ChangeAt Go.RowKit
set_option linter.unusedVariables false

theorem Try.cellsOfPair : Try.prog.cellsOf 24 = 2 := by kernel_rfl
theorem open_pair {H : Type} {enc : TypeId × Value → H} {W : World} {base : Nat} {v : Value} {d : DataW H} {p : List MemPlace} {b0 : Nat} {sp : Nat → Bool} {held : Bool} {r : Reach} (hv : Value.okWide Try.prog W r b0 24 v) (h : DataW.Trod enc Try.prog W base sp held 24 v d p) :
    ∃ a b : Int, v = .agg #[.int .i64 a, .int .i64 b] ∧ d = .agg [.lit (.int .i64 a), .lit (.int .i64 b)] ∧ p = [] ∧ (Lit.int .i64 a).wf = true ∧ (Lit.int .i64 b).wf = true := by
  obtain ⟨c0, c1, y0, y1, m, rfl, rfl, rfl, hy0, hy1⟩ := Joins.open_agg2 Try.underlying24 (by kernel_rfl) Try.cellsOfPair hv h
  obtain ⟨a, e0, rfl, wa⟩ := DataW.trod_int Try.underlying22 hy0
  obtain ⟨b, e1, rfl, wb⟩ := DataW.trod_int Try.underlying22 hy1
  simp at e0 e1
  subst e0 e1
  exact ⟨a, b, rfl, rfl, rfl, wa, wb⟩
theorem shut_pair {H : Type} {enc : TypeId × Value → H} {W : World} {base : Nat} {sp : Nat → Bool} {held : Bool} {a b : Int} (wa : (Lit.int .i64 a).wf = true) (wb : (Lit.int .i64 b).wf = true) :
    DataW.Trod enc Try.prog W base sp held 24 (.agg #[.int .i64 a, .int .i64 b]) (.agg [.lit (.int .i64 a), .lit (.int .i64 b)]) [] :=
  Joins.shut_agg2 (y0 := (.lit (.int .i64 a), [])) (y1 := (.lit (.int .i64 b), [])) Try.underlying24 (by kernel_rfl) Try.cellsOfPair ⟨1, by simp [DataW.trod, Try.underlying22, wa]⟩ ⟨1, by simp [DataW.trod, Try.underlying22, wb]⟩

/-- What a call keeps: some cells that were there, and all that was there in w0. -/
theorem held2 {f : FuncId} {xs : Array Value} {v : Value} {w0 : World} {p q : Addr} {x y : Value} (h : ∀ W, Calls Try.prog f xs W fun e w' => e = .returned v ∧ Ext W w') (W : World) (hS : (W.cell? p = some x ∧ W.cell? q = some y) ∧ Ext w0 W) :
    Calls Try.prog f xs W fun e w' => e = .returned v ∧ ((w'.cell? p = some x ∧ w'.cell? q = some y) ∧ Ext w0 w') :=
  (h W).mono fun e w' ⟨he, hx⟩ => ⟨he, ⟨ext_keeps hx hS.1.1, ext_keeps hx hS.1.2⟩, hS.2.trans hx⟩
theorem held4 {f : FuncId} {xs : Array Value} {v : Value} {w0 : World} {p q r s : Addr} {x y z t : Value} (h : ∀ W, Calls Try.prog f xs W fun e w' => e = .returned v ∧ Ext W w') (W : World) (hS : (W.cell? p = some x ∧ W.cell? q = some y ∧ W.cell? r = some z ∧ W.cell? s = some t) ∧ Ext w0 W) :
    Calls Try.prog f xs W fun e w' => e = .returned v ∧ ((w'.cell? p = some x ∧ w'.cell? q = some y ∧ w'.cell? r = some z ∧ w'.cell? s = some t) ∧ Ext w0 w') :=
  (h W).mono fun e w' ⟨he, hx⟩ => ⟨he, ⟨ext_keeps hx hS.1.1, ext_keeps hx hS.1.2.1, ext_keeps hx hS.1.2.2.1, ext_keeps hx hS.1.2.2.2⟩, hS.2.trans hx⟩

theorem of_m7 (W : World) : Calls Try.prog 19 #[.int .i64 (-7)] W fun e w' => e = .returned (.agg #[.int .i64 (-7), .int .i64 (-1)]) ∧ Ext W w' := by
  have h := of_calls W (-7) (by unfold I64; omega) W (Ext.refl W)
  rw [show lo (-7) = -7 by decide +kernel, show hi (-7) = -1 by decide +kernel] at h
  exact h
theorem floor_m7 (W : World) : Calls Try.prog 31 #[.agg #[.int .i64 (-7), .int .i64 (-1)], .int .i64 2] W fun e w' => e = .returned (.tuple #[.int .i64 1, .int .i64 (-4), .int .i64 0]) ∧ Ext W w' := by
  have h := floor_calls W (-7) (-1) 2 (by unfold I64; omega) (by unfold I64; omega) (by unfold I64; omega) W (Ext.refl W)
  rw [show V (-7) (-1) = -7 by decide +kernel, show FQ (-7) 2 = -4 by decide +kernel, show FR (-7) 2 = 1 by decide +kernel] at h
  exact h
theorem trunc_m7 (W : World) : Calls Try.prog 33 #[.agg #[.int .i64 (-7), .int .i64 (-1)], .int .i64 2] W fun e w' => e = .returned (.tuple #[.int .i64 (-1), .int .i64 (-3), .int .i64 0]) ∧ Ext W w' := by
  have h := trunc_calls W (-7) (-1) 2 (by unfold I64; omega) (by unfold I64; omega) (by unfold I64; omega) W (Ext.refl W)
  rw [show V (-7) (-1) = -7 by decide +kernel, show (-7 : Int).tdiv 2 = -3 by decide +kernel, show (-7 : Int).tmod 2 = -1 by decide +kernel] at h
  exact h
theorem umul_m1 (W : World) : Calls Try.prog 27 #[.int .i64 (-1), .int .i64 (-1)] W fun e w' => e = .returned (.agg #[.int .i64 1, .int .i64 (-2)]) ∧ Ext W w' := by
  have h := umul_calls W (-1) (-1) (by unfold I64; omega) (by unfold I64; omega) W (Ext.refl W)
  rw [show lo (U (-1) * U (-1)) = 1 by decide +kernel, show hi (U (-1) * U (-1)) = -2 by decide +kernel] at h
  exact h
set_option maxRecDepth 100000 in
theorem shown_calls (w0 w : World) (h : Ext w0 w) : Calls Try.prog 10 #[] w fun e w' => e = .returned (.bool true) ∧ Ext w0 w' := by
  go_enter Try.func10, Try.ntmps10
  go_wp2_with (first | (go_at_call 19; refine (of_m7 _).mono ?_; rintro e w' ⟨rfl, hx⟩; replace h := h.trans hx; clear hx) | (go_at_call 31; refine (floor_m7 _).mono ?_; rintro e w' ⟨rfl, hx⟩; replace h := h.trans hx; clear hx) | (go_at_call 33; refine (trunc_m7 _).mono ?_; rintro e w' ⟨rfl, hx⟩; replace h := h.trans hx; clear hx) | (go_at_call 27; refine (umul_m1 _).mono ?_; rintro e w' ⟨rfl, hx⟩; replace h := h.trans hx; clear hx))
  go_ret
  exact ⟨rfl, h⟩
end Go.Proofs.Ytfehpfcpeiopiaa
