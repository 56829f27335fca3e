/- A memory of bytes among the call's own blocks: a block of two cells (a slice, a number), and a block of bytes. Plain words on worlds and lists. No condition. -/
import Derived.Test.YtahnbllmgalgpaaStruct
import Derived.Laws.IdiomCopy
import Derived.Lib.LazyBuf
namespace Go.Proofs.Ytahnbllmgalgpaa
open Go.RowKit
set_option linter.unusedVariables false

/-- B with l in place of what lies from place o on. -/
def splice (B : List UInt8) (o : Nat) (l : List UInt8) : List UInt8 := B.take o ++ l ++ B.drop (o + l.length)
theorem splice_len {B : List UInt8} {o : Nat} {l : List UInt8} (h : o + l.length ≤ B.length) : (splice B o l).length = B.length := by
  unfold splice; simp; omega
theorem splice_nil (B : List UInt8) (o : Nat) : splice B o [] = B := by simp [splice]
theorem splice_get {B : List UInt8} {o : Nat} {l : List UInt8} (h : o + l.length ≤ B.length) (i : Nat) :
    (splice B o l)[i]? = if o ≤ i ∧ i < o + l.length then l[i - o]? else B[i]? := by
  unfold splice
  have ht : (B.take o).length = o := by simp; omega
  by_cases h1 : i < o
  · rw [if_neg (by omega), List.append_assoc, List.getElem?_append_left (by omega), List.getElem?_take, if_pos h1]
  · by_cases h2 : i < o + l.length
    · rw [if_pos (by omega), List.getElem?_append_left (by simp; omega), List.getElem?_append_right (by omega), ht]
    · rw [if_neg (by omega), List.getElem?_append_right (by simp; omega), List.getElem?_drop]
      congr 1
      simp only [List.length_append, ht]
      omega
theorem splice_set {B : List UInt8} {o : Nat} {l : List UInt8} {k : Nat} (hk : k < l.length) (h : o + l.length ≤ B.length) :
    (splice B o (l.take k)).set (o + k) l[k] = splice B o (l.take (k + 1)) := by
  have lk : (l.take k).length = k := by simp; omega
  have lk1 : (l.take (k + 1)).length = k + 1 := by simp; omega
  have hl1 := splice_len (B := B) (o := o) (l := l.take k) (by omega)
  apply List.ext_getElem?
  intro i
  rw [splice_get (by omega), lk1, List.getElem?_set, hl1, splice_get (by omega), lk]
  by_cases h1 : o + k = i
  · rw [if_pos h1, if_pos (by omega), if_pos (by omega), ← h1, show o + k - o = k by omega, List.getElem?_take, if_pos (by omega), List.getElem?_eq_getElem hk]
  · rw [if_neg h1]
    by_cases h2 : o ≤ i ∧ i < o + k
    · rw [if_pos h2, if_pos (by omega), List.getElem?_take, List.getElem?_take, if_pos (by omega), if_pos (by omega)]
    · rw [if_neg h2, if_neg (by omega)]
theorem splice_all (B l : List UInt8) (h : l.length = B.length) : splice B 0 l = l := by simp [splice, h]

/-- Blocks p and q of w are a memory of the bytes B, of which h are given out. -/
structure Mm (w : World) (p q : Nat) (B : List UInt8) (h : Int) : Prop where
  c0 : w.cell? ⟨p, 0, none⟩ = some (.slice (some ⟨q, 0, none⟩) B.length B.length)
  c1 : w.cell? ⟨p, 1, none⟩ = some (.int .i64 h)
  f1 : w.frozen? ⟨p, 1, none⟩ = false
  bs : ∀ i (hi : i < B.length), w.cell? ⟨q, i, none⟩ = some (.int .u8 (B[i].toNat : Int))
  fb : ∀ i, w.frozen? ⟨q, i, none⟩ = false
  ne : p ≠ q
  lp : p < w.heap.size
  lq : q < w.heap.size
  lo : 1024 ≤ B.length
  hi : B.length ≤ 65536
  h0 : 0 ≤ h
  h1 : h ≤ (B.length : Int) - 512

/-- w' is w but for what lies in the blocks p and q, and for new blocks. -/
structure Kept (p q : Nat) (w w' : World) : Prop where
  os : w'.os = w.os
  tape : w'.tape = w.tape
  output : w'.output = w.output
  size : w.heap.size ≤ w'.heap.size
  block : ∀ k, k < w.heap.size → k ≠ p → k ≠ q → w'.heap[k]? = w.heap[k]?
  frozen : ∀ a, w'.frozen? a = w.frozen? a
theorem Kept.refl (p q : Nat) (w : World) : Kept p q w w := ⟨rfl, rfl, rfl, Nat.le_refl _, fun _ _ _ _ => rfl, fun _ => rfl⟩
theorem Kept.trans {p q : Nat} {a b c : World} (h : Kept p q a b) (k : Kept p q b c) : Kept p q a c :=
  ⟨k.os.trans h.os, k.tape.trans h.tape, k.output.trans h.output, Nat.le_trans h.size k.size, fun i hi x y => (k.block i (Nat.lt_of_lt_of_le hi h.size) x y).trans (h.block i hi x y), fun a => (k.frozen a).trans (h.frozen a)⟩
theorem Kept.drew {p q : Nat} {a b : World} (h : Kept p q a b) : Kept p q a b.drew := ⟨h.os, h.tape, h.output, h.size, h.block, h.frozen⟩
theorem Kept.set {p q : Nat} {a b : World} (h : Kept p q a b) {x : Addr} (hx : x.block = p ∨ x.block = q) (v : Value) : Kept p q a (b.setCell x v) :=
  h.trans ⟨rfl, rfl, rfl, by simp [World.setCell], fun k _ h1 h2 => Below.heap_setCell _ _ _ _ (by rcases hx with h | h <;> rw [h] <;> assumption), fun _ => World.frozen?_setCell _ _ _ _⟩
theorem Kept.sets {p q : Nat} {a b : World} (h : Kept p q a b) {x : Nat} (hx : x = p ∨ x = q) : ∀ (vs : List Value) (o : Nat), Kept p q a (b.setCells x o vs) := by
  intro vs
  induction vs generalizing b with
  | nil => intro o; exact h
  | cons v r ih => intro o; exact ih (h.set (x := ⟨x, o, none⟩) hx v) (o + 1)
theorem Kept.of_ext {p q : Nat} {a b : World} (h : Ext a b) : Kept p q a b := ⟨h.1.os, h.1.tape, h.1.output, h.1.size, fun k hk _ _ => h.1.block k hk, h.2⟩
theorem Ext.kept {w0 w w' : World} {p q : Nat} (h : Ext w0 w) (k : Kept p q w w') (hp : w0.heap.size ≤ p) (hq : w0.heap.size ≤ q) : Ext w0 w' :=
  ⟨⟨k.os.trans h.1.os, k.tape.trans h.1.tape, k.output.trans h.1.output, Nat.le_trans h.1.size k.size, fun i hi => (k.block i (Nat.lt_of_lt_of_le hi h.1.size) (by omega) (by omega)).trans (h.1.block i hi)⟩, fun a => (k.frozen a).trans (h.2 a)⟩
theorem cell_of_heap {w w' : World} {b o : Nat} (h : w'.heap[b]? = w.heap[b]?) : w'.cell? ⟨b, o, none⟩ = w.cell? ⟨b, o, none⟩ := World.cell?_of_block (a := ⟨b, o, none⟩) h
theorem Mm.blocks {w w' : World} {p q : Nat} {B : List UInt8} {h : Int} (m : Mm w p q B h) (hp : w'.heap[p]? = w.heap[p]?) (hq : w'.heap[q]? = w.heap[q]?) (hf : ∀ a, w'.frozen? a = w.frozen? a) (hs : w.heap.size ≤ w'.heap.size) : Mm w' p q B h :=
  ⟨(cell_of_heap hp).trans m.c0, (cell_of_heap hp).trans m.c1, (hf _).trans m.f1, fun i hi => (cell_of_heap hq).trans (m.bs i hi), fun i => (hf _).trans (m.fb i), m.ne, Nat.lt_of_lt_of_le m.lp hs, Nat.lt_of_lt_of_le m.lq hs, m.lo, m.hi, m.h0, m.h1⟩
theorem Mm.ext {w w' : World} {p q : Nat} {B : List UInt8} {h : Int} (m : Mm w p q B h) (k : Ext w w') : Mm w' p q B h :=
  m.blocks (k.1.block p m.lp) (k.1.block q m.lq) k.2 k.1.size
theorem Mm.drew {w : World} {p q : Nat} {B : List UInt8} {h : Int} (m : Mm w p q B h) : Mm w.drew p q B h := m.ext (Ext.refl w).drew
theorem Mm.other {w w' : World} {p q p' q' : Nat} {B : List UInt8} {h : Int} (m : Mm w p q B h) (k : Kept p' q' w w') (h1 : p ≠ p') (h2 : p ≠ q') (h3 : q ≠ p') (h4 : q ≠ q') : Mm w' p q B h :=
  m.blocks (k.block p m.lp h1 h2) (k.block q m.lq h3 h4) k.frozen k.size
/-- Another number given out. -/
theorem Mm.give {w : World} {p q : Nat} {B : List UInt8} {h : Int} (m : Mm w p q B h) {h' : Int} (h0 : 0 ≤ h') (h1 : h' ≤ (B.length : Int) - 512) : Mm (w.setCell ⟨p, 1, none⟩ (.int .i64 h')) p q B h' := by
  have n0 : (⟨p, 1, none⟩ : Addr) ≠ ⟨p, 0, none⟩ := by simp
  have hb : (w.setCell ⟨p, 1, none⟩ (.int .i64 h')).heap[q]? = w.heap[q]? := Below.heap_setCell _ _ _ _ (Ne.symm m.ne)
  have hs : (w.setCell ⟨p, 1, none⟩ (.int .i64 h')).heap.size = w.heap.size := by simp [World.setCell]
  exact ⟨by rw [World.cell?_setCell_other (h := n0)]; exact m.c0, World.cell?_setCell_same _ _ _ (h := m.c1), (World.frozen?_setCell _ _ _ _).trans m.f1, fun i hi => (cell_of_heap hb).trans (m.bs i hi), fun i => (World.frozen?_setCell _ _ _ _).trans (m.fb i), m.ne, by rw [hs]; exact m.lp, by rw [hs]; exact m.lq, m.lo, m.hi, h0, h1⟩
/-- Another byte in place i. -/
theorem Mm.put {w : World} {p q : Nat} {B : List UInt8} {h : Int} (m : Mm w p q B h) (i : Nat) (hi : i < B.length) (c : UInt8) : Mm (w.setCell ⟨q, i, none⟩ (.int .u8 (c.toNat : Int))) p q (B.set i c) h := by
  have hb : (w.setCell ⟨q, i, none⟩ (.int .u8 (c.toNat : Int))).heap[p]? = w.heap[p]? := Below.heap_setCell _ _ _ _ m.ne
  have hs : (w.setCell ⟨q, i, none⟩ (.int .u8 (c.toNat : Int))).heap.size = w.heap.size := by simp [World.setCell]
  have hl : (B.set i c).length = B.length := by simp
  refine ⟨by rw [hl]; exact (cell_of_heap hb).trans m.c0, (cell_of_heap hb).trans m.c1, (World.frozen?_setCell _ _ _ _).trans m.f1, fun j hj => ?_, fun i => (World.frozen?_setCell _ _ _ _).trans (m.fb i), m.ne, by rw [hs]; exact m.lp, by rw [hs]; exact m.lq, by rw [hl]; exact m.lo, by rw [hl]; exact m.hi, m.h0, by rw [hl]; exact m.h1⟩
  by_cases hij : i = j
  · subst hij
    rw [World.cell?_setCell_same _ _ _ (h := m.bs i hi)]
    simp
  · have hne : (⟨q, i, none⟩ : Addr) ≠ ⟨q, j, none⟩ := by simp
    rw [World.cell?_setCell_other (h := hne), m.bs j (by simpa using hj)]
    simp [hij]
def cells8 (l : List UInt8) : List Value := l.map fun c => Value.int .u8 (c.toNat : Int)
theorem cells8_len (l : List UInt8) : (cells8 l).length = l.length := by simp [cells8]
/-- Other bytes from place o on. -/
theorem Mm.puts {w : World} {p q : Nat} {B : List UInt8} {h : Int} (m : Mm w p q B h) (o : Nat) (l : List UInt8) (hl : o + l.length ≤ B.length) : Mm (w.setCells q o (cells8 l)) p q (splice B o l) h := by
  suffices hk : ∀ k, k ≤ l.length → Mm (w.setCells q o (cells8 (l.take k))) p q (splice B o (l.take k)) h by
    have := hk l.length (Nat.le_refl _)
    rwa [List.take_length] at this
  have snoc : ∀ (vs : List Value) (x : Value) (o : Nat) (w : World), w.setCells q o (vs ++ [x]) = (w.setCells q o vs).setCell ⟨q, o + vs.length, none⟩ x := by
    intro vs
    induction vs with
    | nil => intro x o w; rfl
    | cons v r ih => intro x o w; show ((w.setCell ⟨q, o, none⟩ v).setCells q (o + 1) (r ++ [x])) = _; rw [ih, show o + 1 + r.length = o + (v :: r).length by simp; omega]; rfl
  intro k
  induction k with
  | zero => intro _; rw [List.take_zero, splice_nil]; exact m
  | succ k ih =>
    intro hk
    have i1 := ih (by omega)
    have e1 : cells8 (l.take (k + 1)) = cells8 (l.take k) ++ [.int .u8 (l[k].toNat : Int)] := by
      rw [List.take_succ_eq_append_getElem (by omega)]; unfold cells8; rw [List.map_append]; rfl
    have e2 : (cells8 (l.take k)).length = k := by rw [cells8_len]; simp; omega
    rw [e1, snoc, e2, ← splice_set (by omega) hl]
    have e3 := splice_len (B := B) (o := o) (l := l.take k) (by simp; omega)
    exact i1.put (o + k) (by omega) l[k]
theorem Kept.puts {p q : Nat} {a b : World} (h : Kept p q a b) (o : Nat) (l : List UInt8) : Kept p q a (b.setCells q o (cells8 l)) := h.sets (Or.inr rfl) _ o
end Go.Proofs.Ytahnbllmgalgpaa
