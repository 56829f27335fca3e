/- Layer 10: ways of an instruction, of the program and of the document; what an operation is. Condition: indices are short of 1000000000. Layer 10: the program's Loops. Condition: there are at most 1000000000 instructions. Layer 10: the program's Loops. Condition: there are at most 1000000 instructions. -/
import Derived.Test.YtnclfopdgilgaaaIB
import Derived.Laws.MakeOwn
import Derived.Deep.LoopGhost
import Derived.Deep.Cut
import Derived.Lib.LazyBuf
namespace Go.Proofs.Ytnclfopdgilgaaa
open Go.RowKit
set_option linter.unusedVariables false

/-- f answers these ways, in a new slice. -/
def TellsW (W : List (Int × Int)) (w : World) (e : Ending) (w' : World) : Prop := ∃ A cap, e = .returned (.slice A W.length cap) ∧ WaysAt w' A W ∧ Mod [] w w' ∧ ∀ a, A = some a → w.heap.size ≤ a.block
/-- How many loops more are open at the next one, and at A. -/
def moreX (op : Nat) : Int × Int := if op = 5 ∨ op = 6 then (1, 0) else if op = 7 ∨ op = 8 then (-1, 0) else if op = 9 then (0, -1) else (0, 0)
def onX (op : Nat) : Bool := decide (op ≠ 3 ∧ op ≠ 9 ∧ op ≠ 15)
def goesX (op : Nat) : Bool := decide (op = 3 ∨ op = 4 ∨ op = 6 ∨ op = 7 ∨ op = 8 ∨ op = 9 ∨ op = 10)
theorem ways_doc (x : Xi) (i : Nat) : waysX x i = (if onX x.op then [((i : Int) + 1, (moreX x.op).1)] else []) ++ (if goesX x.op then [(x.a, (moreX x.op).2)] else []) := by
  obtain ⟨op, a, v⟩ := x
  by_cases h : op < 16
  · have : op ∈ List.range 16 := List.mem_range.2 h
    simp only [List.range, List.range.loop, List.mem_cons, List.not_mem_nil, or_false] at this
    rcases this with rfl | rfl | rfl | rfl | rfl | rfl | rfl | rfl | rfl | rfl | rfl | rfl | rfl | rfl | rfl | rfl <;> rfl
  · have h1 : moreX op = (0, 0) := by unfold moreX; rw [if_neg (by omega), if_neg (by omega), if_neg (by omega)]
    have h2 : onX op = true := decide_eq_true ⟨by omega, by omega, by omega⟩
    have h3 : goesX op = false := decide_eq_false (by omega)
    simp only [h1, h2, h3]
    unfold waysX
    simp only
    rw [if_neg (by omega), if_neg (by omega), if_neg (by omega), if_neg (by omega), if_neg (by omega), if_neg (by omega), if_neg (by omega)]
    rfl
set_option maxHeartbeats 4000000 in
theorem rmore_calls (w : World) (op : Nat) : Calls Try.prog 57 #[.int .u8 (op : Int)] w fun e w' => e = .returned (.tuple #[.int .i64 (moreX op).1, .int .i64 (moreX op).2]) ∧ w = w' := by
  by_cases h5 : op = 5
  · subst h5
    rw [show moreX 5 = (1, 0) from rfl]
    go_enter Try.func57, Try.ntmps57
    go_wp2
    go_ret2
    exact ⟨rfl, rfl⟩
  by_cases h6 : op = 6
  · subst h6
    rw [show moreX 6 = (1, 0) from rfl]
    go_enter Try.func57, Try.ntmps57
    go_wp2
    go_ret2
    exact ⟨rfl, rfl⟩
  by_cases h7 : op = 7
  · subst h7
    rw [show moreX 7 = (-1, 0) from rfl]
    go_enter Try.func57, Try.ntmps57
    go_wp2
    go_ret2
    exact ⟨rfl, rfl⟩
  by_cases h8 : op = 8
  · subst h8
    rw [show moreX 8 = (-1, 0) from rfl]
    go_enter Try.func57, Try.ntmps57
    go_wp2
    go_ret2
    exact ⟨rfl, rfl⟩
  by_cases h9 : op = 9
  · subst h9
    rw [show moreX 9 = (0, -1) from rfl]
    go_enter Try.func57, Try.ntmps57
    go_wp2
    go_ret2
    exact ⟨rfl, rfl⟩
  rw [show moreX op = (0, 0) by unfold moreX; rw [if_neg (by omega), if_neg (by omega), if_neg (by omega)]]
  have g5 : ((op : Int) == 5) = false := by rw [beq_eq_false_iff_ne]; omega
  have g6 : ((op : Int) == 6) = false := by rw [beq_eq_false_iff_ne]; omega
  have g7 : ((op : Int) == 7) = false := by rw [beq_eq_false_iff_ne]; omega
  have g8 : ((op : Int) == 8) = false := by rw [beq_eq_false_iff_ne]; omega
  have g9 : ((op : Int) == 9) = false := by rw [beq_eq_false_iff_ne]; omega
  clear h5 h6 h7 h8 h9
  go_enter Try.func57, Try.ntmps57
  go_wp2
  go_ret2
  exact ⟨rfl, rfl⟩
set_option maxHeartbeats 4000000 in
theorem ron_calls (w : World) (op : Nat) : Calls Try.prog 58 #[.int .u8 (op : Int)] w fun e w' => e = .returned (.bool (onX op)) ∧ w = w' := by
  by_cases h3 : op = 3
  · subst h3
    rw [show onX 3 = false from rfl]
    go_enter Try.func58, Try.ntmps58
    go_wp2
    go_ret
    exact ⟨rfl, rfl⟩
  by_cases h9 : op = 9
  · subst h9
    rw [show onX 9 = false from rfl]
    go_enter Try.func58, Try.ntmps58
    go_wp2
    go_ret
    exact ⟨rfl, rfl⟩
  by_cases h15 : op = 15
  · subst h15
    rw [show onX 15 = false from rfl]
    go_enter Try.func58, Try.ntmps58
    go_wp2
    go_ret
    exact ⟨rfl, rfl⟩
  rw [show onX op = true from decide_eq_true ⟨h3, h9, h15⟩]
  have g3 : ¬ (op : Int) = 3 := by omega
  have g9 : ¬ (op : Int) = 9 := by omega
  have g15 : ¬ (op : Int) = 15 := by omega
  clear h3 h9 h15
  go_enter Try.func58, Try.ntmps58
  go_wp2
  go_ret
  exact ⟨by simp [*], rfl⟩
set_option maxHeartbeats 4000000 in
theorem rgoes_calls (w : World) (op : Nat) : Calls Try.prog 38 #[.int .u8 (op : Int)] w fun e w' => e = .returned (.bool (goesX op)) ∧ w = w' := by
  by_cases h3 : op = 3
  · subst h3
    rw [show goesX 3 = true from rfl]
    go_enter Try.func38, Try.ntmps38
    go_wp2
    go_ret
    exact ⟨rfl, rfl⟩
  by_cases h4 : op = 4
  · subst h4
    rw [show goesX 4 = true from rfl]
    go_enter Try.func38, Try.ntmps38
    go_wp2
    go_ret
    exact ⟨rfl, rfl⟩
  by_cases h6 : op = 6
  · subst h6
    rw [show goesX 6 = true from rfl]
    go_enter Try.func38, Try.ntmps38
    go_wp2
    go_ret
    exact ⟨rfl, rfl⟩
  by_cases h7 : op = 7
  · subst h7
    rw [show goesX 7 = true from rfl]
    go_enter Try.func38, Try.ntmps38
    go_wp2
    go_ret
    exact ⟨rfl, rfl⟩
  by_cases h8 : op = 8
  · subst h8
    rw [show goesX 8 = true from rfl]
    go_enter Try.func38, Try.ntmps38
    go_wp2
    go_ret
    exact ⟨rfl, rfl⟩
  by_cases h9 : op = 9
  · subst h9
    rw [show goesX 9 = true from rfl]
    go_enter Try.func38, Try.ntmps38
    go_wp2
    go_ret
    exact ⟨rfl, rfl⟩
  by_cases h10 : op = 10
  · subst h10
    rw [show goesX 10 = true from rfl]
    go_enter Try.func38, Try.ntmps38
    go_wp2
    go_ret
    exact ⟨rfl, rfl⟩
  rw [show goesX op = false from decide_eq_false (by omega)]
  have g3 : ((op : Int) == 3) = false := by rw [beq_eq_false_iff_ne]; omega
  have g4 : ((op : Int) == 4) = false := by rw [beq_eq_false_iff_ne]; omega
  have g6 : ((op : Int) == 6) = false := by rw [beq_eq_false_iff_ne]; omega
  have g7 : ((op : Int) == 7) = false := by rw [beq_eq_false_iff_ne]; omega
  have g8 : ((op : Int) == 8) = false := by rw [beq_eq_false_iff_ne]; omega
  have g9 : ((op : Int) == 9) = false := by rw [beq_eq_false_iff_ne]; omega
  have g10 : ((op : Int) == 10) = false := by rw [beq_eq_false_iff_ne]; omega
  clear h3 h4 h6 h7 h8 h9 h10
  go_enter Try.func38, Try.ntmps38
  go_wp2
  go_ret
  exact ⟨rfl, rfl⟩
/-- 's[i]' has this place. -/
def isOpX (op : Nat) : Bool := decide (1 ≤ op ∧ op < 16)
end Go.Proofs.Ytnclfopdgilgaaa

namespace Go.Proofs.Ytnclfopdgilgaaa
open Go.RowKit
set_option linter.unusedVariables false

theorem made_ints (n : Nat) : madeCells (Value.int .i64 0).cells n = (intsV (List.replicate n 0)).toArray := by
  apply Array.toList_inj.1
  rw [show (Value.int .i64 0).cells = #[.int .i64 0] from rfl, toList_madeCells_one]
  simp [intsV]
theorem make_ints (w : World) (n : Nat) (hn : n ≤ 1000000000) : (Instr.makeSlice 46 (.int .i64 (n : Int)) (.int .i64 (n : Int))).run Try.prog w = .ok (.slice (some ⟨w.heap.size, 0, none⟩) n n) (w.alloc (.cells (intsV (List.replicate n 0)).toArray 3)) := by
  obtain ⟨i, hi, hz0, hz1, hz2⟩ := info_parts infoInt9
  have := run_make (P := Try.prog) w 46 3 i (.int .i64 0) Try.underlying46 hi hz0 .i64 .i64 n n (by omega) (Int.le_refl _) (by rw [hz2]; omega) (by omega)
  rw [this, hz1, ← made_ints]
  simp
theorem Iv.new (w : World) (o : List Int) (h : o.length ≤ 1000000000) : Iv (w.alloc (.cells (intsV o).toArray 3)) w.heap.size o := ⟨(MapKept.heap_alloc w _).1, h⟩
theorem rep_set (n k : Nat) (hk : k < n) : (List.replicate k (-1 : Int) ++ List.replicate (n - k) 0).set k (-1) = List.replicate (k + 1) (-1) ++ List.replicate (n - (k + 1)) 0 := by
  obtain ⟨m, hm⟩ : ∃ m, n - k = m + 1 := ⟨n - k - 1, by omega⟩
  rw [hm, show n - (k + 1) = m by omega, List.set_append_right _ _ (by simp), List.length_replicate, Nat.sub_self, List.replicate_succ, List.set_cons_zero, List.replicate_succ', List.append_assoc]
  rfl
theorem rep_get (n k : Nat) (hk : k < n) : (List.replicate k (-1 : Int) ++ List.replicate (n - k) 0)[k]? = some 0 := by
  rw [List.getElem?_append_right (by simp), List.length_replicate, Nat.sub_self, List.getElem?_replicate, if_pos (by omega)]
/-- f answers a new block of these numbers. -/
def TellsB (o : List Int) (w : World) (e : Ending) (w' : World) : Prop := ∃ b, e = .returned (.slice (some ⟨b, 0, none⟩) o.length o.length) ∧ Iv w' b o ∧ Mod [] w w' ∧ w.heap.size ≤ b
end Go.Proofs.Ytnclfopdgilgaaa

namespace Go.Proofs.Ytnclfopdgilgaaa
open Go.RowKit
set_option linter.unusedVariables false

/-- f answers how many loops are open; or nothing. -/
def TellsL (L : List Xi) (w : World) (e : Ending) (w' : World) : Prop :=
  (∃ b o, e = .returned (.tuple #[.slice (some ⟨b, 0, none⟩) o.length o.length, .bool true]) ∧ Lab L o ∧ Iv w' b o ∧ Mod [] w w' ∧ w.heap.size ≤ b) ∨
  (e = .returned (.tuple #[.slice none 0 0, .bool false]) ∧ Bad L ∧ Mod [] w w')
/-- The memory of the search: o in the block b, l in a row of its own. -/
structure Lm (w0 w : World) (b : Nat) (o : List Int) (z : Value) (l : List Nat) : Prop where
  iv : Iv w b o
  row : Ir w w0.heap.size z (l.map fun (j : Nat) => (j : Int))
  ne : z.ownBlock ≠ some b
  m : Mod [] w0 w
  nb : w0.heap.size ≤ b
theorem Lm.far {w0 w w' : World} {b : Nat} {o : List Int} {z : Value} {l : List Nat} (h : Lm w0 w b o z l) (m : Mod [] w w') : Lm w0 w' b o z l := ⟨h.iv.far m, h.row.far m, h.ne, h.m.trans m, h.nb⟩
theorem Lm.pop {w0 w : World} {b : Nat} {o : List Int} {A : Option Addr} {n cap : Nat} {l : List Nat} {i : Nat} (h : Lm w0 w b o (.slice A n cap) (l ++ [i])) : Lm w0 w b o (.slice A l.length cap) l := by
  have h2 := h.row
  rw [List.map_append, List.map_singleton] at h2
  have h3 := h2.pop
  rw [List.length_map] at h3
  exact ⟨h.iv, h3, fun e => h.ne (by rw [← e]; cases A <;> rfl), h.m, h.nb⟩
theorem Lm.set {w0 w : World} {b : Nat} {o : List Int} {z : Value} {l : List Nat} (h : Lm w0 w b o z l) (k : Nat) (v : Int) : Lm w0 (w.setCell ⟨b, k, none⟩ (.int .i64 v)) b (o.set k v) z l :=
  ⟨h.iv.set k v, h.row.keep (set_mod _ _ _ _) h.ne, h.ne, h.m.then (set_mod _ _ _ _) (by simpa using h.nb), h.nb⟩
theorem Lm.app {w0 w : World} {b : Nat} {o : List Int} {z : Value} {l : List Nat} (h : Lm w0 w b o z l) (hl : l.length ≤ 1000000000) (t : Nat) :
    ∃ A n cap w', (appInts 46 #[z, .slice (some ⟨w.heap.size, 0, none⟩) 1 1]).run Try.prog (w.alloc (.cells #[.int .i64 (t : Int)] 3)) = .ok (.slice A n cap) w' ∧ n = l.length + 1 ∧ Lm w0 w' b o (.slice A n cap) (l ++ [t]) ∧ Mod z.ownBlock.toList w w' ∧ ((Value.slice A n cap).ownBlock = z.ownBlock ∨ (Value.slice A n cap).ownBlock = some (w.heap.size + 1)) := by
  have h' := h.far ((Mod.refl [] w).alloc (.cells #[.int .i64 (t : Int)] 3))
  obtain ⟨A, n, cap, w', h1, h2, h3, h4, h5⟩ := h'.row.app1 h'.m.size (by simpa using hl) 46 ⟨w.heap.size, 0, none⟩ 1 t (one_int w t)
  have mm : Mod z.ownBlock.toList (w.alloc (.cells #[.int .i64 (t : Int)] 3)) w' := Mod.of_grown h4 (by simp)
  refine ⟨A, n, cap, w', h1, by simpa using h2, ⟨h'.iv.mod mm fun hb => h.ne (by simpa using hb), ?_, ?_, h'.m.then mm fun x hx => Or.inr (h'.row.own x (by simpa using hx)).1, h.nb⟩, ((Mod.refl _ w).alloc _).trans mm, by rw [size_allocI] at h5; exact h5⟩
  · rw [List.map_append, List.map_singleton]
    exact h3
  · rcases h5 with e | e
    · rw [e]; exact h.ne
    · rw [e]
      intro e2
      injection e2 with e2
      have := h'.iv.lt
      omega
theorem Sr1.idx {L : List Xi} {o : List Int} {l : List Nat} {i' i : Nat} (h : Sr1 L o (l ++ [i]) i' 2) : ∃ v x, o[i]? = some v ∧ v ≠ -1 ∧ L[i]? = some x := by
  obtain ⟨v, h1, h2⟩ := h.hl i (by simp)
  have hi := (List.getElem?_eq_some_iff.1 h1).1
  rw [h.b.len] at hi
  exact ⟨v, L[i], h1, h2, List.getElem?_eq_getElem hi⟩
theorem Sr1.short {L : List Xi} {o : List Int} {l : List Nat} {i k : Nat} (h : Sr1 L o l i k) (hn : cnt o + l.length ≤ L.length) : l.length ≤ L.length := by omega
end Go.Proofs.Ytnclfopdgilgaaa
