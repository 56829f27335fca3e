/- What calls turn: blocks of a list, and new ones; rows of cells of the call's own; cells that lie where a slice begins. No condition. -/
import Derived.Test.YtgmdagjaigbajaaC1Base
import Derived.Test.YtgmdagjaigbajaaNum
import Derived.Laws.OwnMore
import Derived.Laws.IdiomCopy
import Derived.Deep.RegionLaw
namespace Go.Proofs.Ytgmdagjaigbajaa
open Go.RowKit
set_option linter.unusedVariables false

/-- w' is w but for the blocks of S, and for new ones. -/
structure Mod (S : List Nat) (w w' : World) : Prop where
  os : w'.os = w.os
  tape : w'.tape = w.tape
  output : w'.output = w.output
  size : w.heap.size ≤ w'.heap.size
  block : ∀ k, k < w.heap.size → k ∉ S → w'.heap[k]? = w.heap[k]?
theorem Mod.refl (S : List Nat) (w : World) : Mod S w w := ⟨rfl, rfl, rfl, Nat.le_refl _, fun _ _ _ => rfl⟩
theorem Mod.then {S T : List Nat} {a b c : World} (h : Mod S a b) (k : Mod T b c) (hT : ∀ x ∈ T, x ∈ S ∨ a.heap.size ≤ x) : Mod S a c :=
  ⟨k.os.trans h.os, k.tape.trans h.tape, k.output.trans h.output, Nat.le_trans h.size k.size, fun i hi hs =>
    (k.block i (Nat.lt_of_lt_of_le hi h.size) (fun ht => (hT i ht).elim hs (by omega))).trans (h.block i hi hs)⟩
theorem Mod.trans {S : List Nat} {a b c : World} (h : Mod S a b) (k : Mod S b c) : Mod S a c := h.then k fun _ hx => Or.inl hx
theorem Mod.far {S : List Nat} {a b c : World} (h : Mod S a b) (k : Mod [] b c) : Mod S a c := h.then k (by simp)
theorem Mod.far1 {S : List Nat} {a b c : World} {p : Nat} (h : Mod S a b) (k : Mod [p] b c) (hp : a.heap.size ≤ p) : Mod S a c := h.then k (by simp; exact Or.inr hp)
theorem Mod.up {S T : List Nat} {a b : World} (h : Mod S a b) (hT : ∀ x ∈ S, x ∈ T) : Mod T a b := ⟨h.os, h.tape, h.output, h.size, fun k hk ht => h.block k hk fun hs => ht (hT k hs)⟩
theorem Mod.drew {S : List Nat} {a b : World} (h : Mod S a b) : Mod S a b.drew := ⟨h.os, h.tape, h.output, h.size, h.block⟩
theorem Mod.drewN {S : List Nat} {a b : World} (h : Mod S a b) (n : Nat) : Mod S a (b.drewN n) := by
  have k := below_drewN (Below.refl b.heap.size b) n
  exact h.then (S := S) (T := []) ⟨k.os, k.tape, k.output, k.size, fun i hi _ => k.block i hi⟩ (by simp)
theorem Mod.alloc {S : List Nat} {a b : World} (h : Mod S a b) (o : Obj) : Mod S a (b.alloc o) := by
  have k := Below.alloc (Below.refl b.heap.size b) (Nat.le_refl _) o
  exact h.then (T := []) ⟨k.os, k.tape, k.output, k.size, fun i hi _ => k.block i hi⟩ (by simp)
theorem Mod.set {S : List Nat} {a b : World} (h : Mod S a b) {x : Addr} (hx : x.block ∈ S ∨ a.heap.size ≤ x.block) (v : Value) : Mod S a (b.setCell x v) :=
  h.then (T := [x.block]) ⟨rfl, rfl, rfl, by simp [World.setCell], fun k _ h1 => Below.heap_setCell _ _ _ _ (by simpa [eq_comm] using h1)⟩ (by simpa using hx)
theorem Mod.sets {S : List Nat} {a b : World} (h : Mod S a b) {x : Nat} (hx : x ∈ S ∨ a.heap.size ≤ x) : ∀ (vs : List Value) (o : Nat), Mod S a (b.setCells x o vs) := by
  intro vs
  induction vs generalizing b with
  | nil => intro o; exact h
  | cons v r ih => intro o; exact ih (h.set (x := ⟨x, o, none⟩) hx v) (o + 1)
theorem Mod.below {a b : World} (h : Mod [] a b) : Below a.heap.size a b := ⟨h.os, h.tape, h.output, h.size, fun k hk => h.block k hk (by simp)⟩
theorem Mod.of_below {a b : World} (h : Below a.heap.size a b) : Mod [] a b := ⟨h.os, h.tape, h.output, h.size, fun k hk _ => h.block k hk⟩
theorem Mod.cell {S : List Nat} {a b : World} (h : Mod S a b) {x : Addr} {v : Value} (hx : x.block ∉ S) (hc : a.cell? x = some v) : b.cell? x = some v :=
  (World.cell?_of_block (h.block x.block (World.block_lt_of_cell? a x hc) hx)).trans hc
theorem Mod.frozen {S : List Nat} {a b : World} (h : Mod S a b) {x : Addr} (hx : x.block ∉ S) (hl : x.block < a.heap.size) : b.frozen? x = a.frozen? x :=
  World.frozen?_of_block (h.block x.block hl hx)
theorem Mod.of_grown {a b : World} {r : Option Nat} (h : a.grownBy b r) {S : List Nat} (hr : ∀ k, r = some k → k ∈ S) : Mod S a b :=
  ⟨h.os, h.tape, h.output, h.size, fun k hk hs => h.block k hk fun e => hs (hr k e.symm)⟩

def cellsI (l : List Int) : List Value := l.map (Value.int .i64)
theorem cellsI_len (l : List Int) : (cellsI l).length = l.length := by simp [cellsI]
theorem cellsI_get (l : List Int) (i : Nat) (h : i < l.length) : (cellsI l)[i]? = some (.int .i64 l[i]) := by simp [cellsI, h]

/-- The cells X lie where A tells. -/
def Sl (w : World) (A : Option Addr) (X : List Int) : Prop := ∀ j (hj : j < X.length), ∃ b off, A = some ⟨b, off, none⟩ ∧ w.cell? ⟨b, off + j, none⟩ = some (.int .i64 X[j])
theorem Sl.nil (w : World) (A : Option Addr) : Sl w A [] := fun j hj => absurd hj (by simp)
theorem Sl.mod {S : List Nat} {w w' : World} {A : Option Addr} {X : List Int} (h : Sl w A X) (k : Mod S w w') (hS : ∀ a, A = some a → a.block ∉ S) : Sl w' A X := fun j hj => by
  obtain ⟨b, off, rfl, hc⟩ := h j hj
  exact ⟨b, off, rfl, k.cell (show b ∉ S from hS ⟨b, off, none⟩ rfl) hc⟩
theorem Sl.far {w w' : World} {A : Option Addr} {X : List Int} (h : Sl w A X) (k : Mod [] w w') : Sl w' A X := h.mod k (by simp)
theorem Sl.take {w : World} {A : Option Addr} {X : List Int} (h : Sl w A X) (k : Nat) : Sl w A (X.take k) := fun j hj => by
  have hj' : j < X.length := by simp at hj; omega
  obtain ⟨b, off, rfl, hc⟩ := h j hj'
  exact ⟨b, off, rfl, by rw [hc]; simp⟩
theorem Sl.src {w : World} {a : Addr} {X : List Int} (h : Sl w (some a) X) : ∀ j v, (cellsI X)[j]? = some v → w.cell? (a.add j) = some v := fun j v hv => by
  have hj : j < X.length := by
    have := (List.getElem?_eq_some_iff.1 hv).1
    rwa [cellsI_len] at this
  obtain ⟨b, off, e, hc⟩ := h j hj
  injection e with e
  subst e
  have hadd : (⟨b, off, none⟩ : Addr).add j = ⟨b, off + j, none⟩ := by unfold Addr.add; split <;> simp_all
  rw [hadd, hc, ← hv, cellsI_get X j hj]
theorem one_cells (X : List Int) : ∀ u ∈ cellsI X, u.oneCell' = true := fun u hu => by
  obtain ⟨x, _, rfl⟩ := List.mem_map.1 hu
  rfl
end Go.Proofs.Ytgmdagjaigbajaa
