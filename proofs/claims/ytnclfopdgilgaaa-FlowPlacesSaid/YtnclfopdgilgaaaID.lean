/- Layer 10: the program's Loops. Condition: there are at most 1000000000 instructions. -/
import Derived.Test.YtnclfopdgilgaaaIC
import Derived.Laws.MakeOwn
namespace Go.Proofs.Ytnclfopdgilgaaa
open Go.RowKit
set_option linter.unusedVariables false

theorem made_ints (n : Nat) : madeCells (Value.int .i64 0).cells n = (intsV (List.replicate n 0)).toArray := by
  apply Array.toList_inj.1
  rw [show (Value.int .i64 0).cells = #[.int .i64 0] from rfl, toList_madeCells_one]
  simp [intsV]
theorem make_ints (w : World) (n : Nat) (hn : n ≤ 1000000000) : (Instr.makeSlice 46 (.int .i64 (n : Int)) (.int .i64 (n : Int))).run Try.prog w = .ok (.slice (some ⟨w.heap.size, 0, none⟩) n n) (w.alloc (.cells (intsV (List.replicate n 0)).toArray 3)) := by
  obtain ⟨i, hi, hz0, hz1, hz2⟩ := info_parts infoInt9
  have := run_make (P := Try.prog) w 46 3 i (.int .i64 0) Try.underlying46 hi hz0 .i64 .i64 n n (by omega) (Int.le_refl _) (by rw [hz2]; omega) (by omega)
  rw [this, hz1, ← made_ints]
  simp
theorem Iv.new (w : World) (o : List Int) (h : o.length ≤ 1000000000) : Iv (w.alloc (.cells (intsV o).toArray 3)) w.heap.size o := ⟨(MapKept.heap_alloc w _).1, h⟩
theorem rep_set (n k : Nat) (hk : k < n) : (List.replicate k (-1 : Int) ++ List.replicate (n - k) 0).set k (-1) = List.replicate (k + 1) (-1) ++ List.replicate (n - (k + 1)) 0 := by
  obtain ⟨m, hm⟩ : ∃ m, n - k = m + 1 := ⟨n - k - 1, by omega⟩
  rw [hm, show n - (k + 1) = m by omega, List.set_append_right _ _ (by simp), List.length_replicate, Nat.sub_self, List.replicate_succ, List.set_cons_zero, List.replicate_succ', List.append_assoc]
  rfl
theorem rep_get (n k : Nat) (hk : k < n) : (List.replicate k (-1 : Int) ++ List.replicate (n - k) 0)[k]? = some 0 := by
  rw [List.getElem?_append_right (by simp), List.length_replicate, Nat.sub_self, List.getElem?_replicate, if_pos (by omega)]
/-- f answers a new block of these numbers. -/
def TellsB (o : List Int) (w : World) (e : Ending) (w' : World) : Prop := ∃ b, e = .returned (.slice (some ⟨b, 0, none⟩) o.length o.length) ∧ Iv w' b o ∧ Mod [] w w' ∧ w.heap.size ≤ b
end Go.Proofs.Ytnclfopdgilgaaa
