/- Layer 10: areFit. Condition: the table reads as the program's text lays it; there are at most 1000000 instructions. -/
import Derived.Test.YtnclfopdgilgaaaIK
import Derived.Deep.CutRange
import Derived.Deep.DeepCutAuto
namespace Go.Proofs.Ytnclfopdgilgaaa
open Go.RowKit
set_option linter.unusedVariables false

/-- From which number to which A may be, of each kind. -/
def spanX (loc n words : Int) (k : Nat) : Int × Int := if k = 0 then (0, 0) else if k = 1 then (1, words) else if k = 2 then (0, n - 1) else if k = 3 then (1, 16) else (0, wrap64 (loc - 1))
def fitX (loc n words : Int) (i : Nat) (x : Xi) : Bool := isOpX x.op && decide ((spanX loc n words (kindX x.op)).1 ≤ x.a ∧ x.a ≤ (spanX loc n words (kindX x.op)).2) && !(decide (x.op = 12) && decide (0 < i)) && (decide (x.op = 1) || decide (x.w = 0))
def FitAll (L : List Xi) (words : Int) : Prop := ∀ i x, L[i]? = some x → fitX (locX L) L.length words i x = true
/-- f answers whether all are fit. -/
def TellsF (L : List Xi) (words : Int) (w : World) (e : Ending) (w' : World) : Prop := ∃ r : Bool, e = .returned (.bool r) ∧ (r = true ↔ FitAll L words) ∧ Mod [] w w'
/-- Five spans in block p. -/
def SpanAt (w : World) (p : Nat) (loc n words : Int) : Prop := ∀ k, k ≤ 4 → w.cell? ⟨p, k * 2, none⟩ = some (.int .i64 (spanX loc n words k).1) ∧ w.cell? ⟨p, k * 2 + 1, none⟩ = some (.int .i64 (spanX loc n words k).2)
theorem SpanAt.far {w w' : World} {p : Nat} {loc n words : Int} (h : SpanAt w p loc n words) (m : Mod [] w w') : SpanAt w' p loc n words := fun k hk => ⟨m.cell (by simp) (h k hk).1, m.cell (by simp) (h k hk).2⟩
abbrev spanC (loc n words : Int) : Array Value := #[.int .i64 0, .int .i64 0, .int .i64 1, .int .i64 words, .int .i64 0, .int .i64 (n - 1), .int .i64 1, .int .i64 16, .int .i64 0, .int .i64 (wrap64 (loc - 1))]
theorem span_new (w : World) (loc n words m : Int) (hm : m = wrap64 (loc - 1)) (t : TypeId) : SpanAt (w.alloc (.cells #[.int .i64 0, .int .i64 0, .int .i64 1, .int .i64 words, .int .i64 0, .int .i64 (n - 1), .int .i64 1, .int .i64 16, .int .i64 0, .int .i64 m] t)) w.heap.size loc n words := fun k hk => by
  subst hm
  rw [World.cell?_alloc_new, World.cell?_alloc_new]
  match k, hk with
  | 0, _ => exact ⟨rfl, rfl⟩
  | 1, _ => exact ⟨rfl, rfl⟩
  | 2, _ => exact ⟨rfl, rfl⟩
  | 3, _ => exact ⟨rfl, rfl⟩
  | 4, _ => exact ⟨rfl, rfl⟩
theorem stored_mod {w0 w : World} {p : Nat} (h : Mod [] w0 w) (hp : w0.heap.size ≤ p) (words n m : Int) : Mod [] w0 ((((((((((w.setCell ⟨p, 0, none⟩ (.int .i64 0)).setCell ⟨p, 1, none⟩ (.int .i64 0)).setCell ⟨p, 2, none⟩ (.int .i64 1)).setCell ⟨p, 3, none⟩ (.int .i64 words)).setCell ⟨p, 4, none⟩ (.int .i64 0)).setCell ⟨p, 5, none⟩ (.int .i64 (n - 1))).setCell ⟨p, 6, none⟩ (.int .i64 1)).setCell ⟨p, 7, none⟩ (.int .i64 16)).setCell ⟨p, 8, none⟩ (.int .i64 0)).setCell ⟨p, 9, none⟩ (.int .i64 m)) := ((((((((((h.set (x := ⟨p, 0, none⟩) (Or.inr hp) _).set (x := ⟨p, 1, none⟩) (Or.inr hp) _).set (x := ⟨p, 2, none⟩) (Or.inr hp) _).set (x := ⟨p, 3, none⟩) (Or.inr hp) _).set (x := ⟨p, 4, none⟩) (Or.inr hp) _).set (x := ⟨p, 5, none⟩) (Or.inr hp) _).set (x := ⟨p, 6, none⟩) (Or.inr hp) _).set (x := ⟨p, 7, none⟩) (Or.inr hp) _).set (x := ⟨p, 8, none⟩) (Or.inr hp) _).set (x := ⟨p, 9, none⟩) (Or.inr hp) _)
end Go.Proofs.Ytnclfopdgilgaaa
