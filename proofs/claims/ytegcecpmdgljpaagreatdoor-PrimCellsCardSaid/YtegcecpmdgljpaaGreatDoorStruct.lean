/- Stores into blocks of the call's own, and what a call leaves of them. No condition. -/
import Derived.Test.YtegcecpmdgljpaaGreatDoorC1Base
namespace Go.Proofs.YtegcecpmdgljpaaGreatDoor
open Go.RowKit
set_option linter.unusedVariables false

theorem Ext.setCell {a b : World} (h : Ext a b) {p : Addr} (hp : a.heap.size ≤ p.block) (v : Value) : Ext a (b.setCell p v) :=
  ⟨Below.setCell h.1 hp v, fun q => (World.frozen?_setCell _ _ _ _).trans (h.2 q)⟩
theorem ext_cell {w0 w : World} (h : Ext w0 w) {b o : Nat} {v : Value} (hb : b < w0.heap.size) (hc : w0.cell? ⟨b, o, none⟩ = some v) : w.cell? ⟨b, o, none⟩ = some v :=
  (Below.cell h.1 (p := ⟨b, o, none⟩) hb).trans hc
/-- What a call leaves of the two cells of the block that was laid last before it. -/
theorem ext_last2 {X w : World} {v0 v1 : Value} {t : TypeId} (h : Ext (X.alloc (.cells #[v0, v1] t)) w) :
    w.cell? ⟨X.heap.size, 0, none⟩ = some v0 ∧ w.cell? ⟨X.heap.size, 1, none⟩ = some v1 ∧ w.frozen? ⟨X.heap.size, 0, none⟩ = false ∧ w.frozen? ⟨X.heap.size, 1, none⟩ = false ∧ X.heap.size < w.heap.size := by
  have hb : (X.alloc (.cells #[v0, v1] t)).heap[X.heap.size]? = some (.cells #[v0, v1] t) := (MapKept.heap_alloc X _).1
  have hlt : X.heap.size < (X.alloc (.cells #[v0, v1] t)).heap.size := by show X.heap.size < (X.heap.push _).size; simp
  refine ⟨ext_cell h hlt ?_, ext_cell h hlt ?_, ?_, ?_, Nat.lt_of_lt_of_le hlt h.1.size⟩
  · simp only [World.cell?, hb]; rfl
  · simp only [World.cell?, hb]; rfl
  · rw [h.2]; simp only [World.frozen?, hb]; rfl
  · rw [h.2]; simp only [World.frozen?, hb]; rfl
theorem ext_keeps {w w' : World} (h : Ext w w') {p : Addr} {v : Value} (hc : w.cell? p = some v) : w'.cell? p = some v := by
  have hb : p.block < w.heap.size := by
    refine Nat.lt_of_not_le fun hle => ?_
    have : w.heap[p.block]? = none := Array.getElem?_eq_none hle
    simp [World.cell?, this] at hc
  exact (Below.cell h.1 hb).trans hc
/-- Block b of w holds two cells, x and y, that may be written. -/
structure Own (w : World) (b : Nat) (x y : Value) : Prop where
  c0 : w.cell? ⟨b, 0, none⟩ = some x
  c1 : w.cell? ⟨b, 1, none⟩ = some y
  f0 : w.frozen? ⟨b, 0, none⟩ = false
  f1 : w.frozen? ⟨b, 1, none⟩ = false
  lt : b < w.heap.size
theorem Own.ext {w w' : World} {b : Nat} {x y : Value} (h : Own w b x y) (k : Ext w w') : Own w' b x y :=
  ⟨ext_keeps k h.c0, ext_keeps k h.c1, (k.2 _).trans h.f0, (k.2 _).trans h.f1, Nat.lt_of_lt_of_le h.lt k.1.size⟩
theorem Own.last {X : World} {x y : Value} {t : TypeId} : Own (X.alloc (.cells #[x, y] t)) X.heap.size x y := by
  obtain ⟨h0, h1, h2, h3, h4⟩ := ext_last2 (Ext.refl (X.alloc (.cells #[x, y] t)))
  exact ⟨h0, h1, h2, h3, h4⟩
theorem Own.alloc {w : World} {b : Nat} {x y : Value} (h : Own w b x y) (c : Array Value) (t : TypeId) : Own (w.alloc (.cells c t)) b x y := h.ext ((Ext.refl w).cells c t)
theorem Own.set {w : World} {b : Nat} {x y : Value} (h : Own w b x y) (u v : Value) : Own ((w.setCell ⟨b, 0, none⟩ u).setCell ⟨b, 1, none⟩ v) b u v := by
  have hne : (⟨b, 0, none⟩ : Addr) ≠ ⟨b, 1, none⟩ := by simp
  refine ⟨?_, ?_, ?_, ?_, ?_⟩
  · rw [World.cell?_setCell_other (h := hne.symm)]; exact World.cell?_setCell_same _ _ _ (h := h.c0)
  · refine World.cell?_setCell_same _ _ _ (u := y) (h := ?_)
    rw [World.cell?_setCell_other (h := hne)]; exact h.c1
  · rw [World.frozen?_setCell, World.frozen?_setCell]; exact h.f0
  · rw [World.frozen?_setCell, World.frozen?_setCell]; exact h.f1
  · simpa [World.setCell] using h.lt
theorem Own.other {w : World} {b b' : Nat} {x y : Value} (h : Own w b x y) (hb : b' ≠ b) (u v : Value) : Own ((w.setCell ⟨b', 0, none⟩ u).setCell ⟨b', 1, none⟩ v) b x y := by
  have hne : ∀ i j, (⟨b', i, none⟩ : Addr) ≠ ⟨b, j, none⟩ := fun i j e => hb (by injection e)
  refine ⟨?_, ?_, ?_, ?_, ?_⟩
  · rw [World.cell?_setCell_other (h := hne _ _), World.cell?_setCell_other (h := hne _ _)]; exact h.c0
  · rw [World.cell?_setCell_other (h := hne _ _), World.cell?_setCell_other (h := hne _ _)]; exact h.c1
  · rw [World.frozen?_setCell, World.frozen?_setCell]; exact h.f0
  · rw [World.frozen?_setCell, World.frozen?_setCell]; exact h.f1
  · simpa [World.setCell] using h.lt
theorem Ext.set2 {a b : World} (h : Ext a b) {n : Nat} (hn : a.heap.size ≤ n) (u v : Value) : Ext a ((b.setCell ⟨n, 0, none⟩ u).setCell ⟨n, 1, none⟩ v) := (h.setCell hn u).setCell hn v
theorem size_alloc (w : World) (o : Obj) : (w.alloc o).heap.size = w.heap.size + 1 := by show (w.heap.push o).size = _; simp
end Go.Proofs.YtegcecpmdgljpaaGreatDoor
