/- Layer 10: ways of an instruction, of the program and of the document; what an operation is. Condition: indices are short of 1000000000. -/
import Derived.Test.YtnclfopdgilgaaaIB
namespace Go.Proofs.Ytnclfopdgilgaaa
open Go.RowKit
set_option linter.unusedVariables false

/-- f answers these ways, in a new slice. -/
def TellsW (W : List (Int × Int)) (w : World) (e : Ending) (w' : World) : Prop := ∃ A cap, e = .returned (.slice A W.length cap) ∧ WaysAt w' A W ∧ Mod [] w w' ∧ ∀ a, A = some a → w.heap.size ≤ a.block
/-- How many loops more are open at the next one, and at A. -/
def moreX (op : Nat) : Int × Int := if op = 5 ∨ op = 6 then (1, 0) else if op = 7 ∨ op = 8 then (-1, 0) else if op = 9 then (0, -1) else (0, 0)
def onX (op : Nat) : Bool := decide (op ≠ 3 ∧ op ≠ 9 ∧ op ≠ 15)
def goesX (op : Nat) : Bool := decide (op = 3 ∨ op = 4 ∨ op = 6 ∨ op = 7 ∨ op = 8 ∨ op = 9 ∨ op = 10)
theorem ways_doc (x : Xi) (i : Nat) : waysX x i = (if onX x.op then [((i : Int) + 1, (moreX x.op).1)] else []) ++ (if goesX x.op then [(x.a, (moreX x.op).2)] else []) := by
  obtain ⟨op, a, v⟩ := x
  by_cases h : op < 16
  · have : op ∈ List.range 16 := List.mem_range.2 h
    simp only [List.range, List.range.loop, List.mem_cons, List.not_mem_nil, or_false] at this
    rcases this with rfl | rfl | rfl | rfl | rfl | rfl | rfl | rfl | rfl | rfl | rfl | rfl | rfl | rfl | rfl | rfl <;> rfl
  · have h1 : moreX op = (0, 0) := by unfold moreX; rw [if_neg (by omega), if_neg (by omega), if_neg (by omega)]
    have h2 : onX op = true := decide_eq_true ⟨by omega, by omega, by omega⟩
    have h3 : goesX op = false := decide_eq_false (by omega)
    simp only [h1, h2, h3]
    unfold waysX
    simp only
    rw [if_neg (by omega), if_neg (by omega), if_neg (by omega), if_neg (by omega), if_neg (by omega), if_neg (by omega), if_neg (by omega)]
    rfl
set_option maxHeartbeats 4000000 in
theorem rmore_calls (w : World) (op : Nat) : Calls Try.prog 57 #[.int .u8 (op : Int)] w fun e w' => e = .returned (.tuple #[.int .i64 (moreX op).1, .int .i64 (moreX op).2]) ∧ w = w' := by
  by_cases h5 : op = 5
  · subst h5
    rw [show moreX 5 = (1, 0) from rfl]
    go_enter Try.func57, Try.ntmps57
    go_wp2
    go_ret2
    exact ⟨rfl, rfl⟩
  by_cases h6 : op = 6
  · subst h6
    rw [show moreX 6 = (1, 0) from rfl]
    go_enter Try.func57, Try.ntmps57
    go_wp2
    go_ret2
    exact ⟨rfl, rfl⟩
  by_cases h7 : op = 7
  · subst h7
    rw [show moreX 7 = (-1, 0) from rfl]
    go_enter Try.func57, Try.ntmps57
    go_wp2
    go_ret2
    exact ⟨rfl, rfl⟩
  by_cases h8 : op = 8
  · subst h8
    rw [show moreX 8 = (-1, 0) from rfl]
    go_enter Try.func57, Try.ntmps57
    go_wp2
    go_ret2
    exact ⟨rfl, rfl⟩
  by_cases h9 : op = 9
  · subst h9
    rw [show moreX 9 = (0, -1) from rfl]
    go_enter Try.func57, Try.ntmps57
    go_wp2
    go_ret2
    exact ⟨rfl, rfl⟩
  rw [show moreX op = (0, 0) by unfold moreX; rw [if_neg (by omega), if_neg (by omega), if_neg (by omega)]]
  have g5 : ((op : Int) == 5) = false := by rw [beq_eq_false_iff_ne]; omega
  have g6 : ((op : Int) == 6) = false := by rw [beq_eq_false_iff_ne]; omega
  have g7 : ((op : Int) == 7) = false := by rw [beq_eq_false_iff_ne]; omega
  have g8 : ((op : Int) == 8) = false := by rw [beq_eq_false_iff_ne]; omega
  have g9 : ((op : Int) == 9) = false := by rw [beq_eq_false_iff_ne]; omega
  clear h5 h6 h7 h8 h9
  go_enter Try.func57, Try.ntmps57
  go_wp2
  go_ret2
  exact ⟨rfl, rfl⟩
set_option maxHeartbeats 4000000 in
theorem ron_calls (w : World) (op : Nat) : Calls Try.prog 58 #[.int .u8 (op : Int)] w fun e w' => e = .returned (.bool (onX op)) ∧ w = w' := by
  by_cases h3 : op = 3
  · subst h3
    rw [show onX 3 = false from rfl]
    go_enter Try.func58, Try.ntmps58
    go_wp2
    go_ret
    exact ⟨rfl, rfl⟩
  by_cases h9 : op = 9
  · subst h9
    rw [show onX 9 = false from rfl]
    go_enter Try.func58, Try.ntmps58
    go_wp2
    go_ret
    exact ⟨rfl, rfl⟩
  by_cases h15 : op = 15
  · subst h15
    rw [show onX 15 = false from rfl]
    go_enter Try.func58, Try.ntmps58
    go_wp2
    go_ret
    exact ⟨rfl, rfl⟩
  rw [show onX op = true from decide_eq_true ⟨h3, h9, h15⟩]
  have g3 : ¬ (op : Int) = 3 := by omega
  have g9 : ¬ (op : Int) = 9 := by omega
  have g15 : ¬ (op : Int) = 15 := by omega
  clear h3 h9 h15
  go_enter Try.func58, Try.ntmps58
  go_wp2
  go_ret
  exact ⟨by simp [*], rfl⟩
set_option maxHeartbeats 4000000 in
theorem rgoes_calls (w : World) (op : Nat) : Calls Try.prog 38 #[.int .u8 (op : Int)] w fun e w' => e = .returned (.bool (goesX op)) ∧ w = w' := by
  by_cases h3 : op = 3
  · subst h3
    rw [show goesX 3 = true from rfl]
    go_enter Try.func38, Try.ntmps38
    go_wp2
    go_ret
    exact ⟨rfl, rfl⟩
  by_cases h4 : op = 4
  · subst h4
    rw [show goesX 4 = true from rfl]
    go_enter Try.func38, Try.ntmps38
    go_wp2
    go_ret
    exact ⟨rfl, rfl⟩
  by_cases h6 : op = 6
  · subst h6
    rw [show goesX 6 = true from rfl]
    go_enter Try.func38, Try.ntmps38
    go_wp2
    go_ret
    exact ⟨rfl, rfl⟩
  by_cases h7 : op = 7
  · subst h7
    rw [show goesX 7 = true from rfl]
    go_enter Try.func38, Try.ntmps38
    go_wp2
    go_ret
    exact ⟨rfl, rfl⟩
  by_cases h8 : op = 8
  · subst h8
    rw [show goesX 8 = true from rfl]
    go_enter Try.func38, Try.ntmps38
    go_wp2
    go_ret
    exact ⟨rfl, rfl⟩
  by_cases h9 : op = 9
  · subst h9
    rw [show goesX 9 = true from rfl]
    go_enter Try.func38, Try.ntmps38
    go_wp2
    go_ret
    exact ⟨rfl, rfl⟩
  by_cases h10 : op = 10
  · subst h10
    rw [show goesX 10 = true from rfl]
    go_enter Try.func38, Try.ntmps38
    go_wp2
    go_ret
    exact ⟨rfl, rfl⟩
  rw [show goesX op = false from decide_eq_false (by omega)]
  have g3 : ((op : Int) == 3) = false := by rw [beq_eq_false_iff_ne]; omega
  have g4 : ((op : Int) == 4) = false := by rw [beq_eq_false_iff_ne]; omega
  have g6 : ((op : Int) == 6) = false := by rw [beq_eq_false_iff_ne]; omega
  have g7 : ((op : Int) == 7) = false := by rw [beq_eq_false_iff_ne]; omega
  have g8 : ((op : Int) == 8) = false := by rw [beq_eq_false_iff_ne]; omega
  have g9 : ((op : Int) == 9) = false := by rw [beq_eq_false_iff_ne]; omega
  have g10 : ((op : Int) == 10) = false := by rw [beq_eq_false_iff_ne]; omega
  clear h3 h4 h6 h7 h8 h9 h10
  go_enter Try.func38, Try.ntmps38
  go_wp2
  go_ret
  exact ⟨rfl, rfl⟩
/-- 's[i]' has this place. -/
def isOpX (op : Nat) : Bool := decide (1 ≤ op ∧ op < 16)
end Go.Proofs.Ytnclfopdgilgaaa
