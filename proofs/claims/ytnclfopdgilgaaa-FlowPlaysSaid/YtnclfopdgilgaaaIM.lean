/- Layer 10: the program's May. Condition: the table reads as the program's text lays it; there are at most 1000000 instructions. -/
import Derived.Test.YtnclfopdgilgaaaIL
namespace Go.Proofs.Ytnclfopdgilgaaa
open Go.RowKit
set_option linter.unusedVariables false

/-- A definition may be. -/
def MayP (L : List Xi) (words : Int) : Prop := L.length ≤ 500 ∧ ∃ o x v, Lab L o ∧ L[L.length - 1]? = some x ∧ o[L.length - 1]? = some v ∧ endX x v = true ∧ FitAll L words
theorem MayP.of {L : List Xi} {words : Int} {o : List Int} {x : Xi} {v : Int} (hl : L.length ≤ 500) (h : Lab L o) (hx : L[L.length - 1]? = some x) (hv : o[L.length - 1]? = some v) : MayP L words ↔ endX x v = true ∧ FitAll L words := by
  refine ⟨fun ⟨_, o', x', v', h1, h2, h3, h4, h5⟩ => ?_, fun ⟨h1, h2⟩ => ⟨hl, o, x, v, h, hx, hv, h1, h2⟩⟩
  obtain rfl := h.same h1
  rw [hx] at h2
  rw [hv] at h3
  injection h2 with h2
  injection h3 with h3
  subst h2 h3
  exact ⟨h4, h5⟩
theorem MayP.bad {L : List Xi} {words : Int} (h : Bad L) : ¬ MayP L words := fun ⟨_, o, _, _, h1, _⟩ => h1.good h
/-- f answers whether a definition may be. -/
def TellsM (L : List Xi) (words : Int) (w : World) (e : Ending) (w' : World) : Prop := ∃ r : Bool, e = .returned (.bool r) ∧ (r = true ↔ MayP L words) ∧ Mod [] w w'
theorem last_there {L : List Xi} {o : List Int} (h : Lab L o) : ∃ x v, L[L.length - 1]? = some x ∧ o[L.length - 1]? = some v :=
  ⟨_, _, List.getElem?_eq_getElem (by have := h.pos; omega), List.getElem?_eq_getElem (by have := h.pos; rw [h.len]; omega)⟩
end Go.Proofs.Ytnclfopdgilgaaa
