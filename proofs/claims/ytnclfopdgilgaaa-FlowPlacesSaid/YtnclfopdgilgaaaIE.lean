/- Layer 10: the program's Loops. Condition: there are at most 1000000 instructions. -/
import Derived.Test.YtnclfopdgilgaaaID
import Derived.Deep.LoopGhost
import Derived.Deep.Cut
import Derived.Lib.LazyBuf
namespace Go.Proofs.Ytnclfopdgilgaaa
open Go.RowKit
set_option linter.unusedVariables false

/-- f answers how many loops are open; or nothing. -/
def TellsL (L : List Xi) (w : World) (e : Ending) (w' : World) : Prop :=
  (∃ b o, e = .returned (.tuple #[.slice (some ⟨b, 0, none⟩) o.length o.length, .bool true]) ∧ Lab L o ∧ Iv w' b o ∧ Mod [] w w' ∧ w.heap.size ≤ b) ∨
  (e = .returned (.tuple #[.slice none 0 0, .bool false]) ∧ Bad L ∧ Mod [] w w')
/-- The memory of the search: o in the block b, l in a row of its own. -/
structure Lm (w0 w : World) (b : Nat) (o : List Int) (z : Value) (l : List Nat) : Prop where
  iv : Iv w b o
  row : Ir w w0.heap.size z (l.map fun (j : Nat) => (j : Int))
  ne : z.ownBlock ≠ some b
  m : Mod [] w0 w
  nb : w0.heap.size ≤ b
theorem Lm.far {w0 w w' : World} {b : Nat} {o : List Int} {z : Value} {l : List Nat} (h : Lm w0 w b o z l) (m : Mod [] w w') : Lm w0 w' b o z l := ⟨h.iv.far m, h.row.far m, h.ne, h.m.trans m, h.nb⟩
theorem Lm.pop {w0 w : World} {b : Nat} {o : List Int} {A : Option Addr} {n cap : Nat} {l : List Nat} {i : Nat} (h : Lm w0 w b o (.slice A n cap) (l ++ [i])) : Lm w0 w b o (.slice A l.length cap) l := by
  have h2 := h.row
  rw [List.map_append, List.map_singleton] at h2
  have h3 := h2.pop
  rw [List.length_map] at h3
  exact ⟨h.iv, h3, fun e => h.ne (by rw [← e]; cases A <;> rfl), h.m, h.nb⟩
theorem Lm.set {w0 w : World} {b : Nat} {o : List Int} {z : Value} {l : List Nat} (h : Lm w0 w b o z l) (k : Nat) (v : Int) : Lm w0 (w.setCell ⟨b, k, none⟩ (.int .i64 v)) b (o.set k v) z l :=
  ⟨h.iv.set k v, h.row.keep (set_mod _ _ _ _) h.ne, h.ne, h.m.then (set_mod _ _ _ _) (by simpa using h.nb), h.nb⟩
theorem Lm.app {w0 w : World} {b : Nat} {o : List Int} {z : Value} {l : List Nat} (h : Lm w0 w b o z l) (hl : l.length ≤ 1000000000) (t : Nat) :
    ∃ A n cap w', (appInts 46 #[z, .slice (some ⟨w.heap.size, 0, none⟩) 1 1]).run Try.prog (w.alloc (.cells #[.int .i64 (t : Int)] 3)) = .ok (.slice A n cap) w' ∧ n = l.length + 1 ∧ Lm w0 w' b o (.slice A n cap) (l ++ [t]) ∧ Mod z.ownBlock.toList w w' ∧ ((Value.slice A n cap).ownBlock = z.ownBlock ∨ (Value.slice A n cap).ownBlock = some (w.heap.size + 1)) := by
  have h' := h.far ((Mod.refl [] w).alloc (.cells #[.int .i64 (t : Int)] 3))
  obtain ⟨A, n, cap, w', h1, h2, h3, h4, h5⟩ := h'.row.app1 h'.m.size (by simpa using hl) 46 ⟨w.heap.size, 0, none⟩ 1 t (one_int w t)
  have mm : Mod z.ownBlock.toList (w.alloc (.cells #[.int .i64 (t : Int)] 3)) w' := Mod.of_grown h4 (by simp)
  refine ⟨A, n, cap, w', h1, by simpa using h2, ⟨h'.iv.mod mm fun hb => h.ne (by simpa using hb), ?_, ?_, h'.m.then mm fun x hx => Or.inr (h'.row.own x (by simpa using hx)).1, h.nb⟩, ((Mod.refl _ w).alloc _).trans mm, by rw [size_allocI] at h5; exact h5⟩
  · rw [List.map_append, List.map_singleton]
    exact h3
  · rcases h5 with e | e
    · rw [e]; exact h.ne
    · rw [e]
      intro e2
      injection e2 with e2
      have := h'.iv.lt
      omega
theorem Sr1.idx {L : List Xi} {o : List Int} {l : List Nat} {i' i : Nat} (h : Sr1 L o (l ++ [i]) i' 2) : ∃ v x, o[i]? = some v ∧ v ≠ -1 ∧ L[i]? = some x := by
  obtain ⟨v, h1, h2⟩ := h.hl i (by simp)
  have hi := (List.getElem?_eq_some_iff.1 h1).1
  rw [h.b.len] at hi
  exact ⟨v, L[i], h1, h2, List.getElem?_eq_getElem hi⟩
theorem Sr1.short {L : List Xi} {o : List Int} {l : List Nat} {i k : Nat} (h : Sr1 L o l i k) (hn : cnt o + l.length ≤ L.length) : l.length ≤ L.length := by omega
end Go.Proofs.Ytnclfopdgilgaaa
