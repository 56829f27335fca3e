/- Layer 10: an instruction as text, of the program and of the document. Condition: the table reads as the program's text lays it. -/
import Derived.Test.YtnclfopdgilgaaaIK
import Derived.Test.YtnclfopdgilgaaaC3RefE
import Derived.Test.YtnclfopdgilgaaaText
namespace Go.Proofs.Ytnclfopdgilgaaa
open Go.RowKit
set_option linter.unusedVariables false

/-- A cell in decimal digits. -/
def decL (n : Int) : List UInt8 := signed 10 (W (lo n) (hi n)).toNat (V (lo n) (hi n))
theorem dec_P (n : Int) : W (lo n) (hi n) = ((W (lo n) (hi n)).toNat : Int) := by have := W_bd (lo n) (hi n); omega
theorem dec_len (n : Int) : (decL n).length ≤ 129 := by
  have hb := W_bd (lo n) (hi n)
  have h1 := fun m (hm : m < two128) => (text_length 10 m (by decide) hm).2
  unfold decL signed
  split
  · rw [List.length_cons]
    have := h1 (-(V (lo n) (hi n))).toNat (by
      have := lo_i64 n
      have := hi_i64 n
      unfold V U two128 I64 at *
      omega)
    omega
  · have := h1 (W (lo n) (hi n)).toNat (by unfold two128; omega)
    omega
theorem Mod.of_ext {w w' : World} (h : Ext w w') : Mod [] w w' := Mod.of_below h.1
theorem lo_same {n : Int} (h : I64 n) : lo n = n := by unfold lo; exact wrap_id h
theorem hi_same {n : Int} (h : I64 n) : hi n = n / 9223372036854775808 := by
  unfold hi
  unfold I64 at h
  rw [wrap_id (by unfold I64; omega)]
  omega
theorem add_str (a b : List UInt8) (ha : a.length ≤ 1000000) (hb : b.length ≤ 1000000) (W : World) : (Op.stringOp .add (str a) (str b)).run Try.prog W = .ok (.string (str (a ++ b))) W := by
  rw [run_string_add_sum W _ _ (by rw [str_size, str_size]; omega), str_append]
/-- An instruction as text. -/
def textX (x : Xi) : List UInt8 := (if isOpX x.op then nameX x.op else [63]) ++ [32] ++ decL (if x.op = 1 then x.w else x.a)
theorem name_len (op : Nat) : (nameX op).length ≤ 6 := by
  by_cases h : op < 16
  · have : op ∈ List.range 16 := List.mem_range.2 h
    simp only [List.range, List.range.loop, List.mem_cons, List.not_mem_nil, or_false] at this
    rcases this with rfl | rfl | rfl | rfl | rfl | rfl | rfl | rfl | rfl | rfl | rfl | rfl | rfl | rfl | rfl | rfl <;> decide
  · unfold nameX
    rw [List.getD_eq_getElem?_getD, List.getElem?_eq_none (by simp; omega)]
    simp
theorem text_len (x : Xi) : (textX x).length ≤ 136 := by
  unfold textX
  have h1 := name_len x.op
  have h2 := dec_len (if x.op = 1 then x.w else x.a)
  rw [List.length_append, List.length_append, List.length_singleton]
  split <;> (try rw [List.length_singleton]) <;> omega
end Go.Proofs.Ytnclfopdgilgaaa
