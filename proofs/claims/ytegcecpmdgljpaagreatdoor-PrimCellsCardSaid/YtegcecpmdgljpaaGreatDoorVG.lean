/- Layer 13: a number is made digit by digit, and told. Condition: numbers are of their kinds. -/
import Derived.Test.YtegcecpmdgljpaaGreatDoorVF
namespace Go.Proofs.YtegcecpmdgljpaaGreatDoor
open Go.RowKit
set_option linter.unusedVariables false

/-- A block of one's own, newer than the state, is written. -/
theorem Lv.own {w0 w w1 w2 : World} {a : Ad} {K : List (Nat × Option Obj)} {C : List Int} {μ : Mu} (h : Lv w0 w a K C μ) {b : Nat} (hb : w.heap.size ≤ b) (k : Mod [] w w1) (hl : b < w1.heap.size) (k2 : Mod [b] w1 w2) : Lv w0 w2 a [(b, w2.heap[b]?)] C μ := by
  obtain ⟨T, h, m, hT, _⟩ := h
  have hbT : b ∉ T := fun hx => by have := h.tl _ hx; omega
  have h1 := (h.far k).other k2 (by simp; exact hbT) (by simp; right; exact Nat.le_trans h.hi hb) (by simp; exact Nat.le_trans h.good.big hb)
  refine ⟨T, h1, (m.far k).then k2 (by simp; exact Nat.le_trans m.size hb), hT, fun x hx => ?_⟩
  obtain rfl : x = (b, w2.heap[b]?) := by simpa using hx
  exact ⟨hbT, Nat.lt_of_lt_of_le hl k2.size, rfl⟩
theorem three_in {x y z : Int} (hx : I64 x) (hy : I64 y) (hz : I64 z) : ∀ u ∈ [x, y, z], I64 u := by simp; exact ⟨hx, hy, hz⟩
theorem sl_three (w : World) (x y z : Int) (t : TypeId) : Sl (w.alloc (.cells #[.int .i64 x, .int .i64 y, .int .i64 z] t)) (some ⟨w.heap.size, 0, none⟩) [x, y, z] := fun j hj => ⟨w.heap.size, 0, rfl, by
  have h3 : j = 0 ∨ j = 1 ∨ j = 2 := by simp at hj; omega
  rw [World.cell?_alloc_new]
  rcases h3 with rfl | rfl | rfl <;> rfl⟩
end Go.Proofs.YtegcecpmdgljpaaGreatDoor
