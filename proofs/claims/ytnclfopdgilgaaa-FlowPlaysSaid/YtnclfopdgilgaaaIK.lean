/- Layer 10: the table of operations; localsOf, has, isEnded. Condition: the table reads as the program's text lays it. -/
import Derived.Test.YtnclfopdgilgaaaJI
import Derived.BigQuiet
namespace Go.Proofs.Ytnclfopdgilgaaa
open Go.RowKit
set_option linter.unusedVariables false

/-- Names and kinds of the operations. -/
def nameX (op : Nat) : List UInt8 := [[], [108, 105, 116], [99, 97, 108, 108], [106, 117, 109, 112], [122, 101, 114, 111], [100, 111], [113, 100, 111], [108, 111, 111, 112], [112, 108, 117, 115], [108, 101, 97, 118, 101], [111, 102], [100, 114, 111, 112], [108, 111, 99, 97, 108, 115], [108, 111, 99, 97, 108], [116, 111], [101, 120, 105, 116]].getD op []
def kindX (op : Nat) : Nat := [0, 0, 1, 2, 2, 0, 2, 2, 2, 2, 2, 0, 3, 4, 4, 0].getD op 0
theorem kind_le (op : Nat) : kindX op ≤ 4 := by
  by_cases h : op < 16
  · have : op ∈ List.range 16 := List.mem_range.2 h
    simp only [List.range, List.range.loop, List.mem_cons, List.not_mem_nil, or_false] at this
    rcases this with rfl | rfl | rfl | rfl | rfl | rfl | rfl | rfl | rfl | rfl | rfl | rfl | rfl | rfl | rfl | rfl <;> decide
  · unfold kindX
    rw [List.getD_eq_getElem?_getD, List.getElem?_eq_none (by simp; omega)]
    simp
/-- The table lies in block 0. -/
structure Good (w : World) : Prop where
  pos : 0 < w.heap.size
  n : ∀ op, op < 16 → w.cell? ⟨0, op * 2, none⟩ = some (.string (⟨(nameX op).toArray⟩ : ByteArray))
  k : ∀ op, op < 16 → w.cell? ⟨0, op * 2 + 1, none⟩ = some (.int .i64 (kindX op : Int))
theorem Good.far {w w' : World} (h : Good w) (m : Mod [] w w') : Good w' := ⟨Nat.lt_of_lt_of_le h.pos m.size, fun op ho => m.cell (by simp) (h.n op ho), fun op ho => m.cell (by simp) (h.k op ho)⟩
def locX (L : List Xi) : Int := match L with
  | x :: _ => if x.op = 12 then x.a else 0
  | [] => 0
/-- Nothing goes on behind the last one. -/
def endX (x : Xi) (v : Int) : Bool := decide (x.op = 3 ∨ (x.op = 15 ∧ v ≤ 0))
end Go.Proofs.Ytnclfopdgilgaaa
