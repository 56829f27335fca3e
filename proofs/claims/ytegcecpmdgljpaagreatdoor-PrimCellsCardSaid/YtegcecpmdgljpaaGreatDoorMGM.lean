/- Plain facts on the bits of integers of 64 bits: they are those of Lean's bit vectors. No Go text is spoken of. Eight bytes as a number, the lowest first. Plain numbers. No condition. A memory of bytes among the call's own blocks: a block of two cells (a slice, a number), and a block of bytes. Plain words on worlds and lists. No condition. Layer 5 (package mem): size, here, and the part of the bytes that a place and a number tell. Conditions: the block is a memory (Mm). Layer 5 (package mem): cells are got. Conditions: the block is a memory (Mm). Layer 5 (package mem): cells and bytes are put. Conditions: the block is a memory (Mm). Layer 5 (package mem): bytes are got, texts are told, written and moved. Conditions: the block is a memory (Mm). Layer 5 (package mem): bytes are given out; cells and bytes are put behind those. Conditions: the block is a memory (Mm). -/
import Derived.Test.YtegcecpmdgljpaaGreatDoorNum
import Derived.Test.YtegcecpmdgljpaaGreatDoorStruct
import Derived.Laws.IdiomCopy
import Derived.Lib.LazyBuf
import Derived.Test.YtegcecpmdgljpaaGreatDoorMGS
import Derived.Laws.BytesArg
namespace Go.Proofs.YtegcecpmdgljpaaGreatDoor
open Go.RowKit
set_option linter.unusedVariables false

theorem and_bv (a b : Int) : bits .and .i64 a b = (BitVec.ofInt 64 a &&& BitVec.ofInt 64 b).toInt := by
  rw [← wrap_toInt]; exact IntWalk.i64_left _
theorem or_bv (a b : Int) : bits .or .i64 a b = (BitVec.ofInt 64 a ||| BitVec.ofInt 64 b).toInt := by
  rw [← wrap_toInt]; exact IntWalk.i64_left _
theorem xor_bv (a b : Int) : bits .xor .i64 a b = (BitVec.ofInt 64 a ^^^ BitVec.ofInt 64 b).toInt := by
  rw [← wrap_toInt]; exact IntWalk.i64_left _
theorem and_v (x y : BitVec 64) : bits .and .i64 x.toInt y.toInt = (x &&& y).toInt := by rw [and_bv, BitVec.ofInt_toInt, BitVec.ofInt_toInt]
theorem or_v (x y : BitVec 64) : bits .or .i64 x.toInt y.toInt = (x ||| y).toInt := by rw [or_bv, BitVec.ofInt_toInt, BitVec.ofInt_toInt]
theorem xor_v (x y : BitVec 64) : bits .xor .i64 x.toInt y.toInt = (x ^^^ y).toInt := by rw [xor_bv, BitVec.ofInt_toInt, BitVec.ofInt_toInt]
theorem add_v (x y : BitVec 64) : wrap64 (x.toInt + y.toInt) = (x + y).toInt := by rw [BitVec.toInt_add, wrap_bmod]
theorem sub_v (x y : BitVec 64) : wrap64 (x.toInt - y.toInt) = (x - y).toInt := by rw [BitVec.toInt_sub, wrap_bmod]

theorem bv_join (x y : BitVec 64) : (x &&& y) + (x ||| y) = x + y := by
  have h1 : x ||| y = (x &&& ~~~y) + y := by
    rw [BitVec.add_eq_or_of_and_eq_zero]
    · apply BitVec.eq_of_getLsbD_eq
      intro i hi
      simp only [BitVec.getLsbD_or, BitVec.getLsbD_and, BitVec.getLsbD_not, hi]
      cases x.getLsbD i <;> cases y.getLsbD i <;> rfl
    · apply BitVec.eq_of_getLsbD_eq
      intro i hi
      simp only [BitVec.getLsbD_and, BitVec.getLsbD_not, hi, BitVec.getLsbD_zero]
      cases x.getLsbD i <;> cases y.getLsbD i <;> rfl
  have h2 : x = (x &&& y) + (x &&& ~~~y) := by
    rw [BitVec.add_eq_or_of_and_eq_zero]
    · apply BitVec.eq_of_getLsbD_eq
      intro i hi
      simp only [BitVec.getLsbD_or, BitVec.getLsbD_and, BitVec.getLsbD_not, hi]
      cases x.getLsbD i <;> cases y.getLsbD i <;> rfl
    · apply BitVec.eq_of_getLsbD_eq
      intro i hi
      simp only [BitVec.getLsbD_and, BitVec.getLsbD_not, hi, BitVec.getLsbD_zero]
      cases x.getLsbD i <;> cases y.getLsbD i <;> rfl
  rw [h1, ← BitVec.add_assoc, ← h2]
theorem bv_xor (x y : BitVec 64) : x ^^^ y = (x ||| y) - (x &&& y) := by
  rw [BitVec.eq_sub_iff_add_eq, BitVec.add_eq_or_of_and_eq_zero]
  · apply BitVec.eq_of_getLsbD_eq
    intro i hi
    simp only [BitVec.getLsbD_or, BitVec.getLsbD_and, BitVec.getLsbD_xor]
    cases x.getLsbD i <;> cases y.getLsbD i <;> rfl
  · apply BitVec.eq_of_getLsbD_eq
    intro i hi
    simp only [BitVec.getLsbD_and, BitVec.getLsbD_xor, BitVec.getLsbD_zero]
    cases x.getLsbD i <;> cases y.getLsbD i <;> rfl

/-- The least cell. -/
theorem min_bv : BitVec.ofInt 64 (-9223372036854775808) = BitVec.intMin 64 := by decide
theorem xor_min (a : Int) (ha : I64 a) : bits .xor .i64 a (-9223372036854775808) = if a < 0 then a + 9223372036854775808 else a - 9223372036854775808 := by
  obtain ⟨x, rfl⟩ := exists_bv ha
  rw [xor_bv, BitVec.ofInt_toInt, min_bv]
  have e : x ^^^ BitVec.intMin 64 = x + BitVec.intMin 64 := by
    have h := bv_join x (BitVec.intMin 64)
    rw [bv_xor, BitVec.sub_eq_iff_eq_add, ← h]
    have hz : ∀ y : BitVec 64, (y &&& BitVec.intMin 64) + (y &&& BitVec.intMin 64) = 0#64 := by
      intro y
      have h2 : y &&& BitVec.intMin 64 = 0#64 ∨ y &&& BitVec.intMin 64 = BitVec.intMin 64 := by
        cases hm : y.getLsbD 63
        · left
          apply BitVec.eq_of_getLsbD_eq
          intro i hi
          rw [BitVec.getLsbD_and, BitVec.getLsbD_intMin, BitVec.getLsbD_zero]
          by_cases hi2 : i = 63
          · subst hi2; rw [hm]; rfl
          · simp [hi2]
        · right
          apply BitVec.eq_of_getLsbD_eq
          intro i hi
          rw [BitVec.getLsbD_and, BitVec.getLsbD_intMin]
          by_cases hi2 : i = 63
          · subst hi2; rw [hm]; rfl
          · simp [hi2]
      rcases h2 with h2 | h2 <;> rw [h2] <;> decide
    rw [BitVec.add_assoc, BitVec.add_comm (x ||| _), ← BitVec.add_assoc, hz, BitVec.zero_add]
  rw [e, ← add_v]
  have hmin : (BitVec.intMin 64).toInt = -9223372036854775808 := by decide
  rw [hmin]
  have := bv_i64 x
  unfold I64 at this
  unfold wrap64
  split <;> omega
end Go.Proofs.YtegcecpmdgljpaaGreatDoor

namespace Go.Proofs.YtegcecpmdgljpaaGreatDoor
open Go.RowKit
set_option linter.unusedVariables false

def leNat : List UInt8 → Nat
  | [] => 0
  | c :: r => c.toNat + 256 * leNat r
theorem leNat_lt : ∀ l : List UInt8, leNat l < 256 ^ l.length
  | [] => by decide
  | c :: r => by
    have := leNat_lt r
    have hc := c.toNat_lt
    have e : 256 ^ (c :: r).length = 256 * 256 ^ r.length := by rw [List.length_cons, Nat.pow_succ]; omega
    show c.toNat + 256 * leNat r < _
    rw [e]
    omega
theorem leNat_snoc : ∀ (l : List UInt8) (c : UInt8), leNat (l ++ [c]) = leNat l + c.toNat * 256 ^ l.length
  | [], c => by simp [leNat]
  | d :: r, c => by
    have := leNat_snoc r c
    have e : 256 ^ (d :: r).length = 256 ^ r.length * 256 := by rw [List.length_cons, Nat.pow_succ]
    show d.toNat + 256 * leNat (r ++ [c]) = d.toNat + 256 * leNat r + c.toNat * 256 ^ (d :: r).length
    rw [this, e, Nat.mul_add, Nat.add_assoc, ← Nat.mul_assoc c.toNat, Nat.mul_comm 256 (c.toNat * _)]
theorem leNat_get : ∀ (l : List UInt8) (i : Nat) (h : i < l.length), leNat l / 256 ^ i % 256 = l[i].toNat
  | c :: r, 0, h => by
    have := c.toNat_lt
    show (c.toNat + 256 * leNat r) / 256 ^ 0 % 256 = c.toNat
    rw [Nat.pow_zero, Nat.div_one]
    omega
  | c :: r, i + 1, h => by
    have := leNat_get r i (by simpa using h)
    have hc := c.toNat_lt
    show (c.toNat + 256 * leNat r) / 256 ^ (i + 1) % 256 = (r[i]'(by simpa using h)).toNat
    rw [show 256 ^ (i + 1) = 256 * 256 ^ i by rw [Nat.pow_succ]; omega, ← Nat.div_div_eq_div_mul, show (c.toNat + 256 * leNat r) / 256 = leNat r by omega]
    exact this
/-- The cell that eight bytes are. -/
def cell8 (l : List UInt8) : Int := wrap64 (leNat l : Nat)
def le8 (x : Int) : List UInt8 := (List.range 8).map fun i => UInt8.ofNat (natOf x / 256 ^ i % 256)
theorem le8_len (x : Int) : (le8 x).length = 8 := by simp [le8]
theorem le8_get (x : Int) (i : Nat) (h : i < (le8 x).length) : ((le8 x)[i].toNat : Nat) = natOf x / 256 ^ i % 256 := by
  simp only [le8, List.getElem_map, List.getElem_range]
  rw [UInt8.toNat_ofNat', Nat.mod_mod]
theorem leNat_le8 (x : Int) : leNat (le8 x) = natOf x := by
  have h := natOf_lt x
  obtain ⟨X, hX⟩ : ∃ X, X = natOf x := ⟨_, rfl⟩
  have e : le8 x = [UInt8.ofNat (X % 256), UInt8.ofNat (X / 256 % 256), UInt8.ofNat (X / 65536 % 256), UInt8.ofNat (X / 16777216 % 256), UInt8.ofNat (X / 4294967296 % 256), UInt8.ofNat (X / 1099511627776 % 256), UInt8.ofNat (X / 281474976710656 % 256), UInt8.ofNat (X / 72057594037927936 % 256)] := by
    rw [hX]
    simp [le8, List.range_succ_eq_map]
  rw [e, ← hX]
  rw [← hX] at h
  simp only [leNat, UInt8.toNat_ofNat', Nat.mod_mod]
  omega
theorem wrap_natOf {x : Int} (h : I64 x) : wrap64 (natOf x : Nat) = x := by
  rw [← natOf_is, u64_wrap]
  unfold I64 at h
  unfold wrap64
  omega
theorem natOf_wrap (n : Nat) (h : n < 18446744073709551616) : natOf (wrap64 n) = n := by
  have e := natOf_is (wrap64 n)
  rw [u64_of_wrap _ (by omega) (by omega)] at e
  omega
theorem cellOf_le8 {x : Int} (h : I64 x) : cell8 (le8 x) = x := by unfold cell8; rw [leNat_le8, wrap_natOf h]
theorem cellOf_i64 (l : List UInt8) : I64 (cell8 l) := i64_wrap _
/-- One byte of a cell: as it is shifted to the right. -/
theorem byte_of (x : Int) (h : I64 x) (i : Nat) (hi : i < 8) : x / 2 ^ (8 * i) % 256 = ((natOf x / 256 ^ i % 256 : Nat) : Int) := by
  have e := natOf_is x
  rw [u64_wrap] at e
  obtain ⟨X, hX⟩ : ∃ X, X = natOf x := ⟨_, rfl⟩
  rw [← hX] at e ⊢
  match i, hi with
  | 0, _ => simp; omega
  | 1, _ => simp; omega
  | 2, _ => simp; omega
  | 3, _ => simp; omega
  | 4, _ => simp; omega
  | 5, _ => simp; omega
  | 6, _ => simp; omega
  | 7, _ => simp; omega
/-- Bytes that are joined by 'or', each farther left. -/
theorem or_step (l : List UInt8) (c : UInt8) (h : l.length < 8) : bits .or .i64 (cell8 l) (wrap64 ((c.toNat : Int) * 2 ^ (8 * l.length))) = cell8 (l ++ [c]) := by
  have h1 := leNat_lt l
  have e256 : 256 ^ l.length = 2 ^ (8 * l.length) := by rw [Nat.pow_mul]
  unfold cell8
  rw [leNat_snoc, or_bv, ofInt_wrap, ofInt_wrap]
  have c1 : ((c.toNat : Int) * 2 ^ (8 * l.length)) = ((c.toNat * 2 ^ (8 * l.length) : Nat) : Int) := by rw [Int.natCast_mul, Int.natCast_pow]; rfl
  rw [c1, BitVec.ofInt_natCast, BitVec.ofInt_natCast, e256]
  rw [e256] at h1
  have e2 : BitVec.ofNat 64 (leNat l) ||| BitVec.ofNat 64 (c.toNat * 2 ^ (8 * l.length)) = BitVec.ofNat 64 (leNat l + c.toNat * 2 ^ (8 * l.length)) := by
    rw [← BitVec.ofNat_or]
    congr 1
    rw [Nat.or_comm, Nat.mul_comm, ← Nat.two_pow_add_eq_or_of_lt h1, Nat.add_comm]
  rw [e2, ← wrap_toInt, BitVec.toNat_ofNat]
  have hm : ((leNat l + c.toNat * 2 ^ (8 * l.length) : Nat) : Int) = ((leNat l + c.toNat * 2 ^ (8 * l.length)) % 2 ^ 64 : Nat) + 18446744073709551616 * (((leNat l + c.toNat * 2 ^ (8 * l.length)) / 2 ^ 64 : Nat) : Int) := by omega
  rw [hm, wrap_off]
end Go.Proofs.YtegcecpmdgljpaaGreatDoor

namespace Go.Proofs.YtegcecpmdgljpaaGreatDoor
open Go.RowKit
set_option linter.unusedVariables false

/-- B with l in place of what lies from place o on. -/
def splice (B : List UInt8) (o : Nat) (l : List UInt8) : List UInt8 := B.take o ++ l ++ B.drop (o + l.length)
theorem splice_len {B : List UInt8} {o : Nat} {l : List UInt8} (h : o + l.length ≤ B.length) : (splice B o l).length = B.length := by
  unfold splice; simp; omega
theorem splice_nil (B : List UInt8) (o : Nat) : splice B o [] = B := by simp [splice]
theorem splice_get {B : List UInt8} {o : Nat} {l : List UInt8} (h : o + l.length ≤ B.length) (i : Nat) :
    (splice B o l)[i]? = if o ≤ i ∧ i < o + l.length then l[i - o]? else B[i]? := by
  unfold splice
  have ht : (B.take o).length = o := by simp; omega
  by_cases h1 : i < o
  · rw [if_neg (by omega), List.append_assoc, List.getElem?_append_left (by omega), List.getElem?_take, if_pos h1]
  · by_cases h2 : i < o + l.length
    · rw [if_pos (by omega), List.getElem?_append_left (by simp; omega), List.getElem?_append_right (by omega), ht]
    · rw [if_neg (by omega), List.getElem?_append_right (by simp; omega), List.getElem?_drop]
      congr 1
      simp only [List.length_append, ht]
      omega
theorem splice_set {B : List UInt8} {o : Nat} {l : List UInt8} {k : Nat} (hk : k < l.length) (h : o + l.length ≤ B.length) :
    (splice B o (l.take k)).set (o + k) l[k] = splice B o (l.take (k + 1)) := by
  have lk : (l.take k).length = k := by simp; omega
  have lk1 : (l.take (k + 1)).length = k + 1 := by simp; omega
  have hl1 := splice_len (B := B) (o := o) (l := l.take k) (by omega)
  apply List.ext_getElem?
  intro i
  rw [splice_get (by omega), lk1, List.getElem?_set, hl1, splice_get (by omega), lk]
  by_cases h1 : o + k = i
  · rw [if_pos h1, if_pos (by omega), if_pos (by omega), ← h1, show o + k - o = k by omega, List.getElem?_take, if_pos (by omega), List.getElem?_eq_getElem hk]
  · rw [if_neg h1]
    by_cases h2 : o ≤ i ∧ i < o + k
    · rw [if_pos h2, if_pos (by omega), List.getElem?_take, List.getElem?_take, if_pos (by omega), if_pos (by omega)]
    · rw [if_neg h2, if_neg (by omega)]
theorem splice_all (B l : List UInt8) (h : l.length = B.length) : splice B 0 l = l := by simp [splice, h]

/-- Blocks p and q of w are a memory of the bytes B, of which h are given out. -/
structure Mm (w : World) (p q : Nat) (B : List UInt8) (h : Int) : Prop where
  c0 : w.cell? ⟨p, 0, none⟩ = some (.slice (some ⟨q, 0, none⟩) B.length B.length)
  c1 : w.cell? ⟨p, 1, none⟩ = some (.int .i64 h)
  f1 : w.frozen? ⟨p, 1, none⟩ = false
  bs : ∀ i (hi : i < B.length), w.cell? ⟨q, i, none⟩ = some (.int .u8 (B[i].toNat : Int))
  fb : ∀ i, w.frozen? ⟨q, i, none⟩ = false
  ne : p ≠ q
  lp : p < w.heap.size
  lq : q < w.heap.size
  lo : 1024 ≤ B.length
  hi : B.length ≤ 65536
  h0 : 0 ≤ h
  h1 : h ≤ (B.length : Int) - 512

/-- w' is w but for what lies in the blocks p and q, and for new blocks. -/
structure Kept (p q : Nat) (w w' : World) : Prop where
  os : w'.os = w.os
  tape : w'.tape = w.tape
  output : w'.output = w.output
  size : w.heap.size ≤ w'.heap.size
  block : ∀ k, k < w.heap.size → k ≠ p → k ≠ q → w'.heap[k]? = w.heap[k]?
  frozen : ∀ a, w'.frozen? a = w.frozen? a
theorem Kept.refl (p q : Nat) (w : World) : Kept p q w w := ⟨rfl, rfl, rfl, Nat.le_refl _, fun _ _ _ _ => rfl, fun _ => rfl⟩
theorem Kept.trans {p q : Nat} {a b c : World} (h : Kept p q a b) (k : Kept p q b c) : Kept p q a c :=
  ⟨k.os.trans h.os, k.tape.trans h.tape, k.output.trans h.output, Nat.le_trans h.size k.size, fun i hi x y => (k.block i (Nat.lt_of_lt_of_le hi h.size) x y).trans (h.block i hi x y), fun a => (k.frozen a).trans (h.frozen a)⟩
theorem Kept.drew {p q : Nat} {a b : World} (h : Kept p q a b) : Kept p q a b.drew := ⟨h.os, h.tape, h.output, h.size, h.block, h.frozen⟩
theorem Kept.set {p q : Nat} {a b : World} (h : Kept p q a b) {x : Addr} (hx : x.block = p ∨ x.block = q) (v : Value) : Kept p q a (b.setCell x v) :=
  h.trans ⟨rfl, rfl, rfl, by simp [World.setCell], fun k _ h1 h2 => Below.heap_setCell _ _ _ _ (by rcases hx with h | h <;> rw [h] <;> assumption), fun _ => World.frozen?_setCell _ _ _ _⟩
theorem Kept.sets {p q : Nat} {a b : World} (h : Kept p q a b) {x : Nat} (hx : x = p ∨ x = q) : ∀ (vs : List Value) (o : Nat), Kept p q a (b.setCells x o vs) := by
  intro vs
  induction vs generalizing b with
  | nil => intro o; exact h
  | cons v r ih => intro o; exact ih (h.set (x := ⟨x, o, none⟩) hx v) (o + 1)
theorem Kept.of_ext {p q : Nat} {a b : World} (h : Ext a b) : Kept p q a b := ⟨h.1.os, h.1.tape, h.1.output, h.1.size, fun k hk _ _ => h.1.block k hk, h.2⟩
theorem Ext.kept {w0 w w' : World} {p q : Nat} (h : Ext w0 w) (k : Kept p q w w') (hp : w0.heap.size ≤ p) (hq : w0.heap.size ≤ q) : Ext w0 w' :=
  ⟨⟨k.os.trans h.1.os, k.tape.trans h.1.tape, k.output.trans h.1.output, Nat.le_trans h.1.size k.size, fun i hi => (k.block i (Nat.lt_of_lt_of_le hi h.1.size) (by omega) (by omega)).trans (h.1.block i hi)⟩, fun a => (k.frozen a).trans (h.2 a)⟩
theorem cell_of_heap {w w' : World} {b o : Nat} (h : w'.heap[b]? = w.heap[b]?) : w'.cell? ⟨b, o, none⟩ = w.cell? ⟨b, o, none⟩ := World.cell?_of_block (a := ⟨b, o, none⟩) h
theorem Mm.blocks {w w' : World} {p q : Nat} {B : List UInt8} {h : Int} (m : Mm w p q B h) (hp : w'.heap[p]? = w.heap[p]?) (hq : w'.heap[q]? = w.heap[q]?) (hf : ∀ a, w'.frozen? a = w.frozen? a) (hs : w.heap.size ≤ w'.heap.size) : Mm w' p q B h :=
  ⟨(cell_of_heap hp).trans m.c0, (cell_of_heap hp).trans m.c1, (hf _).trans m.f1, fun i hi => (cell_of_heap hq).trans (m.bs i hi), fun i => (hf _).trans (m.fb i), m.ne, Nat.lt_of_lt_of_le m.lp hs, Nat.lt_of_lt_of_le m.lq hs, m.lo, m.hi, m.h0, m.h1⟩
theorem Mm.ext {w w' : World} {p q : Nat} {B : List UInt8} {h : Int} (m : Mm w p q B h) (k : Ext w w') : Mm w' p q B h :=
  m.blocks (k.1.block p m.lp) (k.1.block q m.lq) k.2 k.1.size
theorem Mm.drew {w : World} {p q : Nat} {B : List UInt8} {h : Int} (m : Mm w p q B h) : Mm w.drew p q B h := m.ext (Ext.refl w).drew
theorem Mm.other {w w' : World} {p q p' q' : Nat} {B : List UInt8} {h : Int} (m : Mm w p q B h) (k : Kept p' q' w w') (h1 : p ≠ p') (h2 : p ≠ q') (h3 : q ≠ p') (h4 : q ≠ q') : Mm w' p q B h :=
  m.blocks (k.block p m.lp h1 h2) (k.block q m.lq h3 h4) k.frozen k.size
/-- Another number given out. -/
theorem Mm.give {w : World} {p q : Nat} {B : List UInt8} {h : Int} (m : Mm w p q B h) {h' : Int} (h0 : 0 ≤ h') (h1 : h' ≤ (B.length : Int) - 512) : Mm (w.setCell ⟨p, 1, none⟩ (.int .i64 h')) p q B h' := by
  have n0 : (⟨p, 1, none⟩ : Addr) ≠ ⟨p, 0, none⟩ := by simp
  have hb : (w.setCell ⟨p, 1, none⟩ (.int .i64 h')).heap[q]? = w.heap[q]? := Below.heap_setCell _ _ _ _ (Ne.symm m.ne)
  have hs : (w.setCell ⟨p, 1, none⟩ (.int .i64 h')).heap.size = w.heap.size := by simp [World.setCell]
  exact ⟨by rw [World.cell?_setCell_other (h := n0)]; exact m.c0, World.cell?_setCell_same _ _ _ (h := m.c1), (World.frozen?_setCell _ _ _ _).trans m.f1, fun i hi => (cell_of_heap hb).trans (m.bs i hi), fun i => (World.frozen?_setCell _ _ _ _).trans (m.fb i), m.ne, by rw [hs]; exact m.lp, by rw [hs]; exact m.lq, m.lo, m.hi, h0, h1⟩
/-- Another byte in place i. -/
theorem Mm.put {w : World} {p q : Nat} {B : List UInt8} {h : Int} (m : Mm w p q B h) (i : Nat) (hi : i < B.length) (c : UInt8) : Mm (w.setCell ⟨q, i, none⟩ (.int .u8 (c.toNat : Int))) p q (B.set i c) h := by
  have hb : (w.setCell ⟨q, i, none⟩ (.int .u8 (c.toNat : Int))).heap[p]? = w.heap[p]? := Below.heap_setCell _ _ _ _ m.ne
  have hs : (w.setCell ⟨q, i, none⟩ (.int .u8 (c.toNat : Int))).heap.size = w.heap.size := by simp [World.setCell]
  have hl : (B.set i c).length = B.length := by simp
  refine ⟨by rw [hl]; exact (cell_of_heap hb).trans m.c0, (cell_of_heap hb).trans m.c1, (World.frozen?_setCell _ _ _ _).trans m.f1, fun j hj => ?_, fun i => (World.frozen?_setCell _ _ _ _).trans (m.fb i), m.ne, by rw [hs]; exact m.lp, by rw [hs]; exact m.lq, by rw [hl]; exact m.lo, by rw [hl]; exact m.hi, m.h0, by rw [hl]; exact m.h1⟩
  by_cases hij : i = j
  · subst hij
    rw [World.cell?_setCell_same _ _ _ (h := m.bs i hi)]
    simp
  · have hne : (⟨q, i, none⟩ : Addr) ≠ ⟨q, j, none⟩ := by simp
    rw [World.cell?_setCell_other (h := hne), m.bs j (by simpa using hj)]
    simp [hij]
def cells8 (l : List UInt8) : List Value := l.map fun c => Value.int .u8 (c.toNat : Int)
theorem cells8_len (l : List UInt8) : (cells8 l).length = l.length := by simp [cells8]
/-- Other bytes from place o on. -/
theorem Mm.puts {w : World} {p q : Nat} {B : List UInt8} {h : Int} (m : Mm w p q B h) (o : Nat) (l : List UInt8) (hl : o + l.length ≤ B.length) : Mm (w.setCells q o (cells8 l)) p q (splice B o l) h := by
  suffices hk : ∀ k, k ≤ l.length → Mm (w.setCells q o (cells8 (l.take k))) p q (splice B o (l.take k)) h by
    have := hk l.length (Nat.le_refl _)
    rwa [List.take_length] at this
  have snoc : ∀ (vs : List Value) (x : Value) (o : Nat) (w : World), w.setCells q o (vs ++ [x]) = (w.setCells q o vs).setCell ⟨q, o + vs.length, none⟩ x := by
    intro vs
    induction vs with
    | nil => intro x o w; rfl
    | cons v r ih => intro x o w; show ((w.setCell ⟨q, o, none⟩ v).setCells q (o + 1) (r ++ [x])) = _; rw [ih, show o + 1 + r.length = o + (v :: r).length by simp; omega]; rfl
  intro k
  induction k with
  | zero => intro _; rw [List.take_zero, splice_nil]; exact m
  | succ k ih =>
    intro hk
    have i1 := ih (by omega)
    have e1 : cells8 (l.take (k + 1)) = cells8 (l.take k) ++ [.int .u8 (l[k].toNat : Int)] := by
      rw [List.take_succ_eq_append_getElem (by omega)]; unfold cells8; rw [List.map_append]; rfl
    have e2 : (cells8 (l.take k)).length = k := by rw [cells8_len]; simp; omega
    rw [e1, snoc, e2, ← splice_set (by omega) hl]
    have e3 := splice_len (B := B) (o := o) (l := l.take k) (by simp; omega)
    exact i1.put (o + k) (by omega) l[k]
theorem Kept.puts {p q : Nat} {a b : World} (h : Kept p q a b) (o : Nat) (l : List UInt8) : Kept p q a (b.setCells q o (cells8 l)) := h.sets (Or.inr rfl) _ o
end Go.Proofs.YtegcecpmdgljpaaGreatDoor

namespace Go.Proofs.YtegcecpmdgljpaaGreatDoor
open Go.RowKit
set_option linter.unusedVariables false

def inB (n at_ k : Int) : Bool := decide (0 ≤ at_ ∧ 0 ≤ k ∧ at_ ≤ n - k)
/-- Where a row of k bytes from place o on begins: one of none begins at the head. -/
def pam (o k : Nat) : Nat := if k = 0 then 0 else o
theorem size_calls {w : World} {p q : Nat} {B : List UInt8} {h : Int} (m : Mm w p q B h) :
    Calls Tryz.prog 48 #[Pt p] w fun e w' => e = .returned (.int .i64 (B.length : Int)) ∧ w = w' := by
  have c0 := m.c0
  go_enter Tryz.func48, Tryz.ntmps48
  go_wp2
  go_ret
  exact ⟨rfl, rfl⟩
theorem size_none (w : World) :
    Calls Tryz.prog 48 #[.pointer none] w fun e w' => e = .returned (.int .i64 0) ∧ w = w' := by
  go_enter Tryz.func48, Tryz.ntmps48
  go_wp2
  go_ret
  exact ⟨rfl, rfl⟩
theorem here_calls {w : World} {p q : Nat} {B : List UInt8} {h : Int} (m : Mm w p q B h) :
    Calls Tryz.prog 20 #[Pt p] w fun e w' => e = .returned (.int .i64 h) ∧ w = w' := by
  have c1 := m.c1
  go_enter Tryz.func20, Tryz.ntmps20
  go_wp2
  go_ret
  exact ⟨rfl, rfl⟩
theorem here_none (w : World) :
    Calls Tryz.prog 20 #[.pointer none] w fun e w' => e = .returned (.int .i64 0) ∧ w = w' := by
  go_enter Tryz.func20, Tryz.ntmps20
  go_wp2
  go_ret
  exact ⟨rfl, rfl⟩
theorem part_nil (a n : Int) (w : World) :
    Calls Tryz.prog 45 #[.pointer none, .int .i64 a, .int .i64 n] w fun e w' => e = .returned (.tuple #[.slice none 0 0, .int .i64 2]) ∧ w = w' := by
  go_enter Tryz.func45, Tryz.ntmps45
  go_wp2
  go_ret2
  exact ⟨rfl, rfl⟩
theorem part_no {w : World} {p q : Nat} {B : List UInt8} {h : Int} (m : Mm w p q B h) (a n : Int) (ha : I64 a) (hn : I64 n) (ho : inB B.length a n = false) :
    Calls Tryz.prog 45 #[Pt p, .int .i64 a, .int .i64 n] w fun e w' => e = .returned (.tuple #[.slice none 0 0, .int .i64 (-9)]) ∧ w = w' := by
  have hs := Lib.hid (size_calls m)
  have hhi := m.hi
  obtain ⟨L, hL⟩ : ∃ L, L = B.length := ⟨_, rfl⟩
  rw [← hL] at hs hhi ho
  unfold I64 at ha hn
  unfold inB at ho
  rw [decide_eq_false_iff_not] at ho
  clear hL m
  by_cases h1 : a < 0
  · clear ho
    go_enter Tryz.func45, Tryz.ntmps45
    go_wp2_with fail
    go_ret2
    exact ⟨rfl, rfl⟩
  by_cases h2 : n < 0
  · clear ho
    go_enter Tryz.func45, Tryz.ntmps45
    go_wp2_with fail
    go_ret2
    exact ⟨rfl, rfl⟩
  have h3 : (L : Int) - n < a := by omega
  clear ho
  go_enter Tryz.func45, Tryz.ntmps45
  go_wp2_with ((with_reducible refine (hs.out).mono ?_); rintro e w' ⟨rfl, rfl⟩)
  go_ret2
  exact ⟨rfl, rfl⟩
theorem part_ok {w : World} {p q : Nat} {B : List UInt8} {h : Int} (m : Mm w p q B h) (o k : Nat) (ho : o + k ≤ B.length) :
    Calls Tryz.prog 45 #[Pt p, .int .i64 (o : Int), .int .i64 (k : Int)] w fun e w' => e = .returned (.tuple #[.slice (some ⟨q, pam o k, none⟩) k k, .int .i64 0]) ∧ w = w' := by
  have hs := Lib.hid (size_calls m)
  have hhi := m.hi
  have c0 := m.c0
  obtain ⟨L, hL⟩ : ∃ L, L = B.length := ⟨_, rfl⟩
  rw [← hL] at hs hhi ho c0
  clear hL m
  by_cases h0 : k = 0
  · subst h0
    go_enter Tryz.func45, Tryz.ntmps45
    go_wp2_with ((with_reducible refine (hs.out).mono ?_); rintro e w' ⟨rfl, rfl⟩)
    go_ret2
    exact ⟨rfl, rfl⟩
  · have hpa : pam o k = o := if_neg h0
    rw [hpa]
    clear hpa
    go_enter Tryz.func45, Tryz.ntmps45
    go_wp2_with ((with_reducible refine (hs.out).mono ?_); rintro e w' ⟨rfl, rfl⟩)
    go_ret2
    exact ⟨by show Ending.returned (.tuple #[.slice (some ⟨q, o, none⟩) (o + k - o) (o + k - o), .int .i64 0]) = _; rw [Nat.add_sub_cancel_left], rfl⟩

theorem part_lit {w : World} {p q : Nat} {B : List UInt8} {h : Int} (m : Mm w p q B h) (o k : Nat) (n : Int) (hn : n = (k : Int)) (ho : o + k ≤ B.length) :
    Calls Tryz.prog 45 #[Pt p, .int .i64 (o : Int), .int .i64 n] w fun e w' => e = .returned (.tuple #[.slice (some ⟨q, pam o k, none⟩) k k, .int .i64 0]) ∧ w = w' := by
  subst hn
  exact part_ok m o k ho
theorem cellat_nil (a : Int) (w : World) :
    Calls Tryz.prog 77 #[.pointer none, .int .i64 a] w fun e w' => e = .returned (.tuple #[.slice none 0 0, .int .i64 2]) ∧ w = w' := by
  have hp := Lib.hid (part_nil a 8 w)
  go_enter Tryz.func77, Tryz.ntmps77
  go_wp2_with ((with_reducible refine (hp.out).mono ?_); rintro e w' ⟨rfl, rfl⟩)
  go_ret2
  exact ⟨rfl, rfl⟩
theorem cellat_no {w : World} {p q : Nat} {B : List UInt8} {h : Int} (m : Mm w p q B h) (a : Int) (ha : I64 a) (ho : inB B.length a 8 = false) :
    Calls Tryz.prog 77 #[Pt p, .int .i64 a] w fun e w' => e = .returned (.tuple #[.slice none 0 0, .int .i64 (-9)]) ∧ w = w' := by
  have hp := Lib.hid (part_no m a 8 ha (by unfold I64; omega) ho)
  clear m ho ha
  go_enter Tryz.func77, Tryz.ntmps77
  go_wp2_with ((with_reducible refine (hp.out).mono ?_); rintro e w' ⟨rfl, rfl⟩)
  go_ret2
  exact ⟨rfl, rfl⟩
theorem cellat_off {w : World} {p q : Nat} {B : List UInt8} {h : Int} (m : Mm w p q B h) (o : Nat) (ho : o + 8 ≤ B.length) (h8 : o % 8 ≠ 0) :
    Calls Tryz.prog 77 #[Pt p, .int .i64 (o : Int)] w fun e w' => e = .returned (.tuple #[.slice none 0 0, .int .i64 (-23)]) ∧ w = w' := by
  have hp := Lib.hid (part_lit m o 8 8 rfl ho)
  have hhi := m.hi
  have b1 : (o : Int) ≤ 65536 := by omega
  have b2 : ((o : Int) % 8 == 0) = false := by rw [beq_eq_false_iff_ne]; omega
  clear m ho hhi h8
  go_enter Tryz.func77, Tryz.ntmps77
  go_wp2_with ((with_reducible refine (hp.out).mono ?_); rintro e w' ⟨rfl, rfl⟩)
  go_ret2
  exact ⟨rfl, rfl⟩
theorem cellat_ok {w : World} {p q : Nat} {B : List UInt8} {h : Int} (m : Mm w p q B h) (o : Nat) (ho : o + 8 ≤ B.length) (h8 : o % 8 = 0) :
    Calls Tryz.prog 77 #[Pt p, .int .i64 (o : Int)] w fun e w' => e = .returned (.tuple #[.slice (some ⟨q, o, none⟩) 8 8, .int .i64 0]) ∧ w = w' := by
  have hp := Lib.hid (part_lit m o 8 8 rfl ho)
  have hhi := m.hi
  have b1 : (o : Int) ≤ 65536 := by omega
  have b2 : ((o : Int) % 8 == 0) = true := by rw [beq_iff_eq]; omega
  clear m ho hhi h8
  go_enter Tryz.func77, Tryz.ntmps77
  go_wp2_with ((with_reducible refine (hp.out).mono ?_); rintro e w' ⟨rfl, rfl⟩)
  go_ret2
  exact ⟨rfl, rfl⟩
end Go.Proofs.YtegcecpmdgljpaaGreatDoor

namespace Go.Proofs.YtegcecpmdgljpaaGreatDoor
open Go.RowKit
set_option linter.unusedVariables false

theorem get_err (v : Value) (a x : Int) (w : World) (hc : Calls Tryz.prog 77 #[v, .int .i64 a] w fun e w' => e = .returned (.tuple #[.slice none 0 0, .int .i64 x]) ∧ w = w') :
    Calls Tryz.prog 46 #[v, .int .i64 a] w fun e w' => e = .returned (.tuple #[.int .i64 0, .int .i64 x]) ∧ w = w' := by
  have hp := Lib.hid hc
  clear hc
  go_enter Tryz.func46, Tryz.ntmps46
  go_wp2_with ((with_reducible refine (hp.out).mono ?_); rintro e w' ⟨rfl, rfl⟩)
  go_loop [8, 19] (fun x i => x = .int .i64 0 ∧ i = .int .i64 0) (fun _ i => 0)
  case atStart => exact ⟨rfl, rfl⟩
  case round =>
    obtain ⟨rfl, rfl⟩ := hrel
    go_wp2
    go_ret2
    exact ⟨rfl, rfl⟩
theorem get_round {l : List UInt8} (hl : l.length = 8) (k : Nat) (hk : k < 8) : bits .or .i64 (cell8 (l.take k)) (wrap64 ((l[k].toNat : Int) * 2 ^ (8 * k))) = cell8 (l.take (k + 1)) := by
  have := or_step (l.take k) l[k] (by simp; omega)
  rw [show (l.take k).length = k by simp; omega] at this
  rw [this, List.take_succ_eq_append_getElem (by omega)]
theorem get_row {w : World} (v : Value) (q o : Nat) (a : Int) (l : List UInt8) (hl : l.length = 8) (hc : ∀ k (hk : k < l.length), w.cell? ⟨q, o + k, none⟩ = some (.int .u8 (l[k].toNat : Int)))
    (hp : Calls Tryz.prog 77 #[v, .int .i64 a] w fun e w' => e = .returned (.tuple #[.slice (some ⟨q, o, none⟩) 8 8, .int .i64 0]) ∧ w = w') :
    Calls Tryz.prog 46 #[v, .int .i64 a] w fun e w' => e = .returned (.tuple #[.int .i64 (cell8 l), .int .i64 0]) ∧ w = w' := by
  have HP := Lib.hid hp
  have HL := Lib.hid hl
  have HC := Lib.hid hc
  clear hl hc hp
  go_enter Tryz.func46, Tryz.ntmps46
  go_wp2_with ((with_reducible refine (HP.out).mono ?_); rintro e w' ⟨rfl, rfl⟩)
  go_loop [8, 19] (fun x i => ∃ (k : Nat) (X : Int), k ≤ 8 ∧ i = .int .i64 k ∧ x = .int .i64 X ∧ RowKit.Hid (X = cell8 (l.take k))) (fun _ i => 8 - (intOf i).toNat)
  case atStart => exact ⟨0, 0, by omega, rfl, rfl, Lib.hid (by rw [List.take_zero]; unfold cell8 leNat wrap64; omega)⟩
  case round =>
    obtain ⟨k, X, hk, rfl, rfl, hX⟩ := hrel
    by_cases hlt : k < 8
    · have hc := HC.out k (by rw [HL.out]; exact hlt)
      have hr := Lib.hid (get_round HL.out k hlt)
      obtain ⟨c, hce⟩ : ∃ c, c = l[k]'(by have := HL.out; omega) := ⟨_, rfl⟩
      rw [← hce] at hc hr
      clear hce
      go_wp2
      go_round
      case rel => exact ⟨k + 1, _, by omega, by go_num, rfl, Lib.hid (by rw [wrap_mul_l, hX.out, hr.out])⟩
      case measure => simp [intOf]; omega
    · have : k = 8 := by omega
      subst this
      clear hk hlt
      go_wp2
      go_ret2
      have e : X = cell8 l := by rw [hX.out, List.take_of_length_le (by rw [HL.out]; omega)]
      exact ⟨by rw [← e]; rfl, rfl⟩

theorem get_ok {w : World} {p q : Nat} {B : List UInt8} {h : Int} (m : Mm w p q B h) (o : Nat) (ho : o + 8 ≤ B.length) (h8 : o % 8 = 0) :
    Calls Tryz.prog 46 #[Pt p, .int .i64 (o : Int)] w fun e w' => e = .returned (.tuple #[.int .i64 (cell8 ((B.drop o).take 8)), .int .i64 0]) ∧ w = w' :=
  get_row (Pt p) q o o _ (by simp; omega) (fun k hk => by
    rw [m.bs (o + k) (by simp at hk; omega)]
    simp) (cellat_ok m o ho h8)
end Go.Proofs.YtegcecpmdgljpaaGreatDoor

namespace Go.Proofs.YtegcecpmdgljpaaGreatDoor
open Go.RowKit
set_option linter.unusedVariables false

theorem put_err (v : Value) (a y x : Int) (w : World) (hc : Calls Tryz.prog 77 #[v, .int .i64 a] w fun e w' => e = .returned (.tuple #[.slice none 0 0, .int .i64 x]) ∧ w = w') :
    Calls Tryz.prog 66 #[v, .int .i64 a, .int .i64 y] w fun e w' => e = .returned (.int .i64 x) ∧ w = w' := by
  have hp := Lib.hid hc
  clear hc
  go_enter Tryz.func66, Tryz.ntmps66
  go_wp2_with ((with_reducible refine (hp.out).mono ?_); rintro e w' ⟨rfl, rfl⟩)
  go_loop [18] (fun i => i = .int .i64 0) (fun i => 0)
  case atStart => exact rfl
  case round =>
    obtain rfl := hrel
    go_wp2
    go_ret
    exact ⟨rfl, rfl⟩
theorem mput_ok {w : World} {p q : Nat} {B : List UInt8} {h : Int} (m : Mm w p q B h) (o : Nat) (x : Int) (hx : I64 x) (ho : o + 8 ≤ B.length) (h8 : o % 8 = 0) :
    Calls Tryz.prog 66 #[Pt p, .int .i64 (o : Int), .int .i64 x] w fun e w' => e = .returned (.int .i64 0) ∧ Mm w' p q (splice B o (le8 x)) h ∧ Kept p q w w' := by
  have HP := Lib.hid (cellat_ok m o ho h8)
  have HB := Lib.hid (fun i hi => byte_of x hx i hi)
  have HI := Lib.hid hx
  have m0 : Mm w p q (splice B o ((le8 x).take 0)) h := by rw [List.take_zero, splice_nil]; exact m
  have hk0 := Kept.refl p q w
  clear m h8 hx
  have hl := le8_len x
  obtain ⟨l, hle⟩ : ∃ l, l = le8 x := ⟨_, rfl⟩
  have HG := Lib.hid (fun (i : Nat) (h : i < (le8 x).length) => le8_get x i h)
  rw [← hle] at hl HG m0 ⊢
  have HL := Lib.hid hl
  clear hl hle
  go_enter Tryz.func66, Tryz.ntmps66
  go_wp2_with ((with_reducible refine (HP.out).mono ?_); rintro e w' ⟨rfl, rfl⟩)
  go_loopw [18] (fun i wr => ∃ k : Nat, k ≤ 8 ∧ i = .int .i64 k ∧ Mm wr p q (splice B o (l.take k)) h ∧ Kept p q w wr) (fun i _ => 8 - (intOf i).toNat)
  case atStart => exact ⟨0, by omega, rfl, m0, hk0⟩
  case round =>
    clear m0 hk0
    obtain ⟨k, hk, rfl, hm, hkp⟩ := hrel
    by_cases hlt : k < 8
    · have hlk : k < l.length := by rw [HL.out]; exact hlt
      have hs := splice_len (B := B) (o := o) (l := l.take k) (by simp; omega)
      have hc := hm.bs (o + k) (by omega)
      obtain ⟨y, hy⟩ : ∃ y, y = (((splice B o (l.take k))[o + k]'(by omega)).toNat : Int) := ⟨_, rfl⟩
      rw [← hy] at hc
      have hf := hm.fb (o + k)
      have hput := Lib.hid (hm.put (o + k) (by omega) l[k])
      have hset := Lib.hid (splice_set (B := B) (o := o) hlk (by rw [HL.out]; exact ho))
      have hkk := Lib.hid (hkp.set (x := ⟨q, o + k, none⟩) (Or.inr rfl) (.int .u8 (l[k].toNat : Int)))
      have hbx := HI.out
      unfold I64 at hbx
      clear hm hkp hy hs
      go_wp2
      go_roundw
      case rel =>
        have hv : x / 2 ^ (8 * k) % 256 = (l[k].toNat : Int) := by rw [HB.out k hlt, HG.out k hlk]
        rw [hv]
        exact ⟨k + 1, by omega, by go_num, hset.out ▸ hput.out, hkk.out⟩
      case measure => simp [intOf]; omega
    · have : k = 8 := by omega
      subst this
      clear hk hlt
      go_wp2
      go_ret
      rw [List.take_of_length_le (by rw [HL.out]; omega)] at hm
      exact ⟨rfl, hm, hkp⟩
theorem fill_err (v : Value) (a n c x : Int) (w : World) (hc : Calls Tryz.prog 45 #[v, .int .i64 a, .int .i64 n] w fun e w' => e = .returned (.tuple #[.slice none 0 0, .int .i64 x]) ∧ w = w') :
    Calls Tryz.prog 140 #[v, .int .i64 a, .int .i64 n, .int .u8 c] w fun e w' => e = .returned (.int .i64 x) ∧ w = w' := by
  have hp := Lib.hid hc
  clear hc
  go_enter Tryz.func140, Tryz.ntmps140
  go_wp2_with ((with_reducible refine (hp.out).mono ?_); rintro e w' ⟨rfl, rfl⟩)
  go_loop [21] (fun i => i = .int .i64 0) (fun i => 0)
  case atStart => exact rfl
  case round =>
    obtain rfl := hrel
    go_wp2
    go_ret
    exact ⟨rfl, rfl⟩
theorem fill_ok {w : World} {p q : Nat} {B : List UInt8} {h : Int} (m : Mm w p q B h) (o n : Nat) (c : UInt8) (ho : o + n ≤ B.length) :
    Calls Tryz.prog 140 #[Pt p, .int .i64 (o : Int), .int .i64 (n : Int), .int .u8 (c.toNat : Int)] w fun e w' => e = .returned (.int .i64 0) ∧ Mm w' p q (splice B o (List.replicate n c)) h ∧ Kept p q w w' := by
  have HP := Lib.hid (part_ok m o n ho)
  have m0 : Mm w p q (splice B o ((List.replicate n c).take 0)) h := by rw [List.take_zero, splice_nil]; exact m
  have hk0 := Kept.refl p q w
  have hhi := m.hi
  have hn : n ≤ 65536 := by omega
  clear m hhi
  have HL := Lib.hid (List.length_replicate (n := n) (a := c))
  go_enter Tryz.func140, Tryz.ntmps140
  go_wp2_with ((with_reducible refine (HP.out).mono ?_); rintro e w' ⟨rfl, rfl⟩)
  go_loopw [21] (fun i wr => ∃ k : Nat, k ≤ n ∧ i = .int .i64 k ∧ Mm wr p q (splice B o ((List.replicate n c).take k)) h ∧ Kept p q w wr) (fun i _ => n - (intOf i).toNat)
  case atStart => exact ⟨0, by omega, rfl, m0, hk0⟩
  case round =>
    clear m0 hk0
    obtain ⟨k, hk, rfl, hm, hkp⟩ := hrel
    by_cases hlt : k < n
    · have hlk : k < (List.replicate n c).length := by rw [HL.out]; exact hlt
      have hs := splice_len (B := B) (o := o) (l := (List.replicate n c).take k) (by simp; omega)
      have hc := hm.bs (o + k) (by omega)
      obtain ⟨y, hy⟩ : ∃ y, y = (((splice B o ((List.replicate n c).take k))[o + k]'(by omega)).toNat : Int) := ⟨_, rfl⟩
      rw [← hy] at hc
      have hf := hm.fb (o + k)
      have hput := hm.put (o + k) (by omega) c
      have hset := splice_set (B := B) (o := o) hlk (by simp; omega)
      rw [List.getElem_replicate] at hset
      rw [hset] at hput
      have HM := Lib.hid hput
      have hkk := Lib.hid (hkp.set (x := ⟨q, o + k, none⟩) (Or.inr rfl) (.int .u8 (c.toNat : Int)))
      have hpa : pam o n = o := if_neg (by omega)
      clear hm hkp hy hs hlk hput hset
      go_wp2
      go_roundw
      case rel => exact ⟨k + 1, by omega, by go_num, HM.out, hkk.out⟩
      case measure => simp [intOf]; omega
    · have : k = n := by omega
      subst this
      clear hk hlt
      go_wp2
      go_ret
      rw [List.take_of_length_le (by rw [HL.out]; omega)] at hm
      exact ⟨rfl, hm, hkp⟩
theorem putbyte_err (v : Value) (a c x : Int) (w : World) (hc : Calls Tryz.prog 45 #[v, .int .i64 a, .int .i64 1] w fun e w' => e = .returned (.tuple #[.slice none 0 0, .int .i64 x]) ∧ w = w') :
    Calls Tryz.prog 132 #[v, .int .i64 a, .int .u8 c] w fun e w' => e = .returned (.int .i64 x) ∧ w = w' := by
  have hp := Lib.hid (fill_err v a 1 c x w hc)
  clear hc
  go_enter Tryz.func132, Tryz.ntmps132
  go_wp2_with ((with_reducible refine (hp.out).mono ?_); rintro e w' ⟨rfl, rfl⟩)
  go_ret
  exact ⟨rfl, rfl⟩
theorem putbyte_ok {w : World} {p q : Nat} {B : List UInt8} {h : Int} (m : Mm w p q B h) (o : Nat) (c : UInt8) (ho : o < B.length) :
    Calls Tryz.prog 132 #[Pt p, .int .i64 (o : Int), .int .u8 (c.toNat : Int)] w fun e w' => e = .returned (.int .i64 0) ∧ Mm w' p q (splice B o [c]) h ∧ Kept p q w w' := by
  have hp := Lib.hid (show Calls Tryz.prog 140 #[Pt p, .int .i64 (o : Int), .int .i64 1, .int .u8 (c.toNat : Int)] w fun e w' => e = .returned (.int .i64 0) ∧ Mm w' p q (splice B o [c]) h ∧ Kept p q w w' from fill_ok m o 1 c (by omega))
  clear m ho
  go_enter Tryz.func132, Tryz.ntmps132
  go_wp2_with ((with_reducible refine (hp.out).mono ?_); rintro e w' ⟨rfl, hm, hk⟩)
  go_ret
  exact ⟨rfl, hm, hk⟩
end Go.Proofs.YtegcecpmdgljpaaGreatDoor

namespace Go.Proofs.YtegcecpmdgljpaaGreatDoor
open Go.RowKit
set_option linter.unusedVariables false

theorem getbyte_err (v : Value) (a x : Int) (w : World) (hx : (x == 0) = false) (hc : Calls Tryz.prog 45 #[v, .int .i64 a, .int .i64 1] w fun e w' => e = .returned (.tuple #[.slice none 0 0, .int .i64 x]) ∧ w = w') :
    Calls Tryz.prog 130 #[v, .int .i64 a] w fun e w' => e = .returned (.tuple #[.int .u8 0, .int .i64 x]) ∧ w = w' := by
  have hp := Lib.hid hc
  clear hc
  go_enter Tryz.func130, Tryz.ntmps130
  go_wp2_with ((with_reducible refine (hp.out).mono ?_); rintro e w' ⟨rfl, rfl⟩)
  go_ret2
  exact ⟨rfl, rfl⟩
theorem getbyte_ok {w : World} {p q : Nat} {B : List UInt8} {h : Int} (m : Mm w p q B h) (o : Nat) (ho : o < B.length) :
    Calls Tryz.prog 130 #[Pt p, .int .i64 (o : Int)] w fun e w' => e = .returned (.tuple #[.int .u8 (B[o].toNat : Int), .int .i64 0]) ∧ w = w' := by
  have HP := Lib.hid (part_lit m o 1 1 rfl (by omega))
  have hc := m.bs o ho
  obtain ⟨y, hy⟩ : ∃ y, y = B[o] := ⟨_, rfl⟩
  rw [← hy] at hc ⊢
  have hpa : pam o 1 = o := rfl
  clear m hy
  go_enter Tryz.func130, Tryz.ntmps130
  go_wp2_with ((with_reducible refine (HP.out).mono ?_); rintro e w' ⟨rfl, rfl⟩)
  go_ret2
  exact ⟨rfl, rfl⟩
theorem text_err (v : Value) (a n x : Int) (w : World) (hc : Calls Tryz.prog 45 #[v, .int .i64 a, .int .i64 n] w fun e w' => e = .returned (.tuple #[.slice none 0 0, .int .i64 x]) ∧ w = w') :
    Calls Tryz.prog 17 #[v, .int .i64 a, .int .i64 n] w fun e w' => e = .returned (.tuple #[.string ⟨#[]⟩, .int .i64 x]) ∧ w = w' := by
  have hp := Lib.hid hc
  have hcv := run_convert_bytes_nil (P := Tryz.prog) w 59 5 Tryz.underlying59 Tryz.underlying5 0 0 9 Tryz.underlying9
  clear hc
  go_enter Tryz.func17, Tryz.ntmps17
  go_wp2_with ((with_reducible refine (hp.out).mono ?_); rintro e w' ⟨rfl, rfl⟩)
  go_ret2
  exact ⟨rfl, rfl⟩
def textB (l : List UInt8) : ByteArray := ⟨l.toArray⟩
theorem Mm.conv {w : World} {p q : Nat} {B : List UInt8} {h : Int} (m : Mm w p q B h) (o n : Nat) (ho : o + n ≤ B.length) (cap : Nat) :
    (convert 59 9 (.slice (some ⟨q, pam o n, none⟩) n cap)).run Tryz.prog w = .ok (.string (textB ((B.drop o).take n))) w := by
  have hl : ((B.drop o).take n).length = n := by simp; omega
  have hr := run_convert_bytes_back (P := Tryz.prog) w 59 9 5 ⟨q, pam o n, none⟩ cap ((B.drop o).take n) Tryz.underlying59 Tryz.underlying5 Tryz.underlying9 (fun j hj => by
    have hn : j < n := by omega
    have hpa : pam o n = o := if_neg (by omega)
    have hplain : (⟨q, pam o n, none⟩ : Addr).add j = ⟨q, o + j, none⟩ := by rw [hpa]; unfold Addr.add; split <;> simp_all
    rw [hplain, m.bs (o + j) (by omega)]
    simp)
  rw [hl] at hr
  exact hr
theorem text_ok {w : World} {p q : Nat} {B : List UInt8} {h : Int} (m : Mm w p q B h) (o n : Nat) (ho : o + n ≤ B.length) :
    Calls Tryz.prog 17 #[Pt p, .int .i64 (o : Int), .int .i64 (n : Int)] w fun e w' => e = .returned (.tuple #[.string (textB ((B.drop o).take n)), .int .i64 0]) ∧ w = w' := by
  have hp := Lib.hid (part_ok m o n ho)
  have hcv := m.conv o n ho n
  generalize textB ((B.drop o).take n) = T at *
  clear m
  go_enter Tryz.func17, Tryz.ntmps17
  go_wp2_with ((with_reducible refine (hp.out).mono ?_); rintro e w' ⟨rfl, rfl⟩)
  go_ret2
  exact ⟨rfl, rfl⟩
theorem Mm.copy_text {w : World} {p q : Nat} {B : List UInt8} {h : Int} (m : Mm w p q B h) (o : Nat) (s : ByteArray) (ho : o + s.size ≤ B.length) (ty : TypeId) :
    (Builtin.copy_ #[59, 9] ty #[.slice (some ⟨q, pam o s.size, none⟩) s.size s.size, .string s]).run Tryz.prog w = .ok (goInt s.size) (w.setCells q o (cells8 s.data.toList)) := by
  have hz : ∀ w, (Go.sizeOf 5).run Tryz.prog w = .ok 1 w := fun w => by kernel_rfl
  by_cases h0 : s.size = 0
  · have hs : s.data.toList = [] := List.eq_nil_of_length_eq_zero (by rw [← Lib.size_eq]; exact h0)
    have hr := run_copy_string (P := Tryz.prog) w 59 9 ty 5 q (pam o s.size) s.size s.size s Tryz.underlying59 hz (Nat.le_refl _) (fun j hj => by omega) (fun j hj => by omega)
    rw [hs] at hr ⊢
    exact hr
  · have hpa : pam o s.size = o := if_neg h0
    rw [hpa]
    exact run_copy_string (P := Tryz.prog) w 59 9 ty 5 q o s.size s.size s Tryz.underlying59 hz (Nat.le_refl _) (fun j hj => by rw [m.bs (o + j) (by omega)]; rfl) (fun j hj => m.fb _)
theorem Mm.copy_row {w : World} {p q : Nat} {B : List UInt8} {h : Int} (m : Mm w p q B h) (f o n : Nat) (hf : f + n ≤ B.length) (ho : o + n ≤ B.length) (ty : TypeId) :
    (Builtin.copy_ #[59, 59] ty #[.slice (some ⟨q, pam o n, none⟩) n n, .slice (some ⟨q, pam f n, none⟩) n n]).run Tryz.prog w = .ok (goInt n) (w.setCells q o (cells8 ((B.drop f).take n))) := by
  have hl : (cells8 ((B.drop f).take n)).length = n := by rw [cells8_len]; simp; omega
  have hr := run_copy_cells (P := Tryz.prog) w 59 59 ty 5 q (pam o n) n n ⟨q, pam f n, none⟩ n n (cells8 ((B.drop f).take n)) Tryz.underlying59 (by kernel_rfl) (by rw [hl]; exact (Nat.min_self n).symm) (fun j v hj => by
      have hjn : j < n := by rw [← hl]; exact (List.getElem?_eq_some_iff.1 hj).1
      have hpa : pam f n = f := if_neg (by omega)
      have hplain : (⟨q, pam f n, none⟩ : Addr).add j = ⟨q, f + j, none⟩ := by rw [hpa]; unfold Addr.add; split <;> simp_all
      rw [hplain, m.bs (f + j) (by omega)]
      rw [← hj]
      simp [cells8, hjn]
      rw [List.getElem?_eq_getElem (by omega)]
      rfl) (fun j hj => by
      have hjn : j < n := by omega
      have hpa : pam o n = o := if_neg (by omega)
      rw [hpa, m.bs (o + j) (by omega)]; rfl) (fun j hj => m.fb _) (fun v hv => by
      obtain ⟨x, _, rfl⟩ := List.mem_map.1 hv
      rfl)
  rw [hl] at hr
  by_cases h0 : n = 0
  · have hs : (cells8 ((B.drop f).take n)) = [] := List.eq_nil_of_length_eq_zero (by rw [hl]; exact h0)
    rw [hs] at hr ⊢
    exact hr
  · have hpa : pam o n = o := if_neg h0
    rw [hpa] at hr ⊢
    exact hr
theorem write_err (v : Value) (a x : Int) (s : ByteArray) (hs : s.size ≤ maxLen) (w : World) (hc : Calls Tryz.prog 45 #[v, .int .i64 a, .int .i64 (s.size : Int)] w fun e w' => e = .returned (.tuple #[.slice none 0 0, .int .i64 x]) ∧ w = w') :
    Calls Tryz.prog 49 #[v, .int .i64 a, .string s] w fun e w' => e = .returned (.int .i64 x) ∧ w = w' := by
  have hp := Lib.hid hc
  unfold maxLen at hs
  have hcp : ∀ ty, (Builtin.copy_ #[59, 9] ty #[.slice none 0 0, .string s]).run Tryz.prog w = .ok (goInt 0) w := fun ty => by
    simp [Builtin.copy_, run_underlying Tryz.underlying59, Builtin.lenOf, Builtin.firstCells]
  clear hc
  go_enter Tryz.func49, Tryz.ntmps49
  go_wp2_with ((with_reducible refine (hp.out).mono ?_); rintro e w' ⟨rfl, rfl⟩)
  go_ret
  exact ⟨rfl, rfl⟩
theorem write_ok {w : World} {p q : Nat} {B : List UInt8} {h : Int} (m : Mm w p q B h) (o : Nat) (s : ByteArray) (ho : o + s.size ≤ B.length) :
    Calls Tryz.prog 49 #[Pt p, .int .i64 (o : Int), .string s] w fun e w' => e = .returned (.int .i64 0) ∧ Mm w' p q (splice B o s.data.toList) h ∧ Kept p q w w' := by
  have hp := Lib.hid (part_ok m o s.size ho)
  have hcp := m.copy_text o s ho
  have HM := Lib.hid (m.puts o s.data.toList (by rw [← Lib.size_eq]; exact ho))
  have HK := Lib.hid ((Kept.refl p q w).puts o s.data.toList)
  have hb := m.hi
  have hs : (s.size : Int) ≤ 65536 := by omega
  generalize w.setCells q o (cells8 s.data.toList) = W' at *
  clear m hb ho
  go_enter Tryz.func49, Tryz.ntmps49
  go_wp2_with ((with_reducible refine (hp.out).mono ?_); rintro e w' ⟨rfl, rfl⟩)
  go_ret
  exact ⟨rfl, HM.out, HK.out⟩
theorem move_err (v : Value) (f a n x : Int) (w : World) (hx : (x == 0) = false) (hc : Calls Tryz.prog 45 #[v, .int .i64 f, .int .i64 n] w fun e w' => e = .returned (.tuple #[.slice none 0 0, .int .i64 x]) ∧ w = w') :
    Calls Tryz.prog 142 #[v, .int .i64 f, .int .i64 a, .int .i64 n] w fun e w' => e = .returned (.int .i64 x) ∧ w = w' := by
  have hp := Lib.hid hc
  clear hc
  go_enter Tryz.func142, Tryz.ntmps142
  go_wp2_with ((with_reducible refine (hp.out).mono ?_); rintro e w' ⟨rfl, rfl⟩)
  go_ret
  exact ⟨rfl, rfl⟩
theorem move_far {w : World} {p q : Nat} {B : List UInt8} {h : Int} (m : Mm w p q B h) (f n : Nat) (a : Int) (ha : I64 a) (hf : f + n ≤ B.length) (ho : inB B.length a n = false) :
    Calls Tryz.prog 142 #[Pt p, .int .i64 (f : Int), .int .i64 a, .int .i64 (n : Int)] w fun e w' => e = .returned (.int .i64 (-9)) ∧ w = w' := by
  have hb := m.hi
  have h1 := Lib.hid (part_ok m f n hf)
  have h2 := Lib.hid (part_no m a n ha (by unfold I64; omega) ho)
  have hcp : ∀ ty, (Builtin.copy_ #[59, 59] ty #[.slice none 0 0, .slice (some ⟨q, pam f n, none⟩) n n]).run Tryz.prog w = .ok (goInt 0) w := fun ty =>
    run_copy_none w _ _ ty 5 none _ 0 0 n n Tryz.underlying59 (by kernel_rfl) (Nat.min_zero n)
  clear m ha hf ho hb
  go_enter Tryz.func142, Tryz.ntmps142
  go_wp2_with fail
  refine (h1.out).mono ?_
  rintro e w' ⟨rfl, rfl⟩
  go_wp2_with fail
  refine (h2.out).mono ?_
  rintro e w' ⟨rfl, rfl⟩
  go_wp2_with fail
  go_ret
  exact ⟨rfl, rfl⟩
theorem move_ok {w : World} {p q : Nat} {B : List UInt8} {h : Int} (m : Mm w p q B h) (f o n : Nat) (hf : f + n ≤ B.length) (ho : o + n ≤ B.length) :
    Calls Tryz.prog 142 #[Pt p, .int .i64 (f : Int), .int .i64 (o : Int), .int .i64 (n : Int)] w fun e w' => e = .returned (.int .i64 0) ∧ Mm w' p q (splice B o ((B.drop f).take n)) h ∧ Kept p q w w' := by
  have h1 := Lib.hid (part_ok m f n hf)
  have h2 := Lib.hid (part_ok m o n ho)
  have hcp := m.copy_row f o n hf ho
  have HM := Lib.hid (m.puts o ((B.drop f).take n) (by simp; omega))
  have HK := Lib.hid ((Kept.refl p q w).puts o ((B.drop f).take n))
  generalize w.setCells q o (cells8 ((B.drop f).take n)) = W' at *
  clear m ho hf
  go_enter Tryz.func142, Tryz.ntmps142
  go_wp2_with fail
  refine (h1.out).mono ?_
  rintro e w' ⟨rfl, rfl⟩
  go_wp2_with fail
  refine (h2.out).mono ?_
  rintro e w' ⟨rfl, rfl⟩
  go_wp2_with fail
  go_ret
  exact ⟨rfl, HM.out, HK.out⟩
end Go.Proofs.YtegcecpmdgljpaaGreatDoor

namespace Go.Proofs.YtegcecpmdgljpaaGreatDoor
open Go.RowKit
set_option linter.unusedVariables false

theorem allot_none (n : Int) (w : World) :
    Calls Tryz.prog 65 #[.pointer none, .int .i64 n] w fun e w' => e = .returned (.int .i64 2) ∧ w = w' := by
  go_enter Tryz.func65, Tryz.ntmps65
  go_wp2
  go_ret
  exact ⟨rfl, rfl⟩
def inH (L h n : Int) : Bool := decide (0 ≤ h + n ∧ h + n ≤ L - 512)
theorem allot_ok {w : World} {p q : Nat} {B : List UInt8} {h : Int} (m : Mm w p q B h) (n : Int) (hn : inH B.length h n = true) :
    Calls Tryz.prog 65 #[Pt p, .int .i64 n] w fun e w' => e = .returned (.int .i64 0) ∧ Mm w' p q B (h + n) ∧ Kept p q w w' := by
  unfold inH at hn
  rw [decide_eq_true_eq] at hn
  obtain ⟨t, ht⟩ : ∃ t, t = h + n := ⟨_, rfl⟩
  have HM := Lib.hid (m.give (h' := h + n) hn.1 hn.2)
  have HK := Lib.hid ((Kept.refl p q w).set (x := ⟨p, 1, none⟩) (Or.inl rfl) (.int .i64 (h + n)))
  have hs := Lib.hid (size_calls m)
  have b1 := m.hi
  have b2 := m.h0
  have b3 := m.h1
  have b4 := m.lo
  have hc := m.c1
  have hf := m.f1
  obtain ⟨L, hL⟩ : ∃ L, L = B.length := ⟨_, rfl⟩
  rw [← hL] at hs b1 b3 b4 hn
  obtain ⟨n1, n2⟩ := hn
  clear m hL ht t
  go_enter Tryz.func65, Tryz.ntmps65
  go_wp2_with ((with_reducible refine (hs.out).mono ?_); rintro e w' ⟨rfl, rfl⟩)
  go_ret
  exact ⟨rfl, HM.out, HK.out⟩
theorem allot_no {w : World} {p q : Nat} {B : List UInt8} {h : Int} (m : Mm w p q B h) (n : Int) (hI : I64 n) (hn : inH B.length h n = false) :
    Calls Tryz.prog 65 #[Pt p, .int .i64 n] w fun e w' => e = .returned (.int .i64 (-8)) ∧ w = w' := by
  unfold inH at hn
  rw [decide_eq_false_iff_not] at hn
  unfold I64 at hI
  have hs := Lib.hid (size_calls m)
  have b1 := m.hi
  have b2 := m.h0
  have b3 := m.h1
  have b4 := m.lo
  have hc := m.c1
  obtain ⟨L, hL⟩ : ∃ L, L = B.length := ⟨_, rfl⟩
  rw [← hL] at hs b1 b3 b4 hn
  obtain ⟨t, ht⟩ : ∃ t, wrap64 (h + n) = t := ⟨_, rfl⟩
  have h1 : t < 0 ∨ (L : Int) - 512 < t ∧ 0 ≤ t := by rw [← ht]; unfold wrap64; omega
  have b5 : -9223372036854775808 ≤ t ∧ t ≤ 9223372036854775807 := by rw [← ht]; unfold wrap64; omega
  clear m hL hn b2 b3 hI
  rcases h1 with h1 | ⟨h1, h2⟩
  · go_enter Tryz.func65, Tryz.ntmps65
    go_wp2_with ((with_reducible refine (hs.out).mono ?_); rintro e w' ⟨rfl, rfl⟩)
    go_ret
    exact ⟨rfl, rfl⟩
  · go_enter Tryz.func65, Tryz.ntmps65
    go_wp2_with ((with_reducible refine (hs.out).mono ?_); rintro e w' ⟨rfl, rfl⟩)
    go_ret
    exact ⟨rfl, rfl⟩
/-- How many bytes there are up to the next cell. -/
def upM (h : Int) : Int := (8 - h % 8) % 8
theorem align_calls {w : World} {p q : Nat} {B : List UInt8} {h x : Int} {R : World → Prop} (m : Mm w p q B h)
    (ha : Calls Tryz.prog 65 #[Pt p, .int .i64 (upM h)] w fun e w' => e = .returned (.int .i64 x) ∧ R w') :
    Calls Tryz.prog 153 #[Pt p] w fun e w' => e = .returned (.int .i64 x) ∧ R w' := by
  have hh := Lib.hid (here_calls m)
  have hA := Lib.hid ha
  have b1 := m.hi
  have b2 := m.h0
  have b3 := m.h1
  have b4 : h ≤ 65536 := by omega
  have hu : upM h = -(h % 8) % 8 := by unfold upM; omega
  rw [hu] at hA
  clear m ha b3 b1 hu
  go_enter Tryz.func153, Tryz.ntmps153
  go_wp2_with fail
  refine (hh.out).mono ?_
  rintro e w' ⟨rfl, rfl⟩
  have b5 : 0 ≤ h % 8 ∧ h % 8 < 8 := by omega
  go_wp2_with fail
  refine (hA.out).mono ?_
  rintro e w' ⟨rfl, hR⟩
  go_wp2_with fail
  go_ret
  exact ⟨rfl, hR⟩
theorem comma_off {w : World} {p q : Nat} {B : List UInt8} {h : Int} (m : Mm w p q B h) (x : Int) (h8 : h % 8 ≠ 0) :
    Calls Tryz.prog 40 #[Pt p, .int .i64 x] w fun e w' => e = .returned (.int .i64 (-23)) ∧ w = w' := by
  have hh := Lib.hid (here_calls m)
  have b1 := m.hi
  have b2 := m.h0
  have b3 := m.h1
  have b4 : h ≤ 65536 := by omega
  have b5 : (h % 8 == 0) = false := by rw [beq_eq_false_iff_ne]; exact h8
  clear m h8 b3 b1
  go_enter Tryz.func40, Tryz.ntmps40
  go_wp2_with ((with_reducible refine (hh.out).mono ?_); rintro e w' ⟨rfl, rfl⟩)
  go_ret
  exact ⟨rfl, rfl⟩
theorem comma_no {w : World} {p q : Nat} {B : List UInt8} {h : Int} (m : Mm w p q B h) (x : Int) (h8 : h % 8 = 0) (hn : inH B.length h 8 = false) :
    Calls Tryz.prog 40 #[Pt p, .int .i64 x] w fun e w' => e = .returned (.int .i64 (-8)) ∧ w = w' := by
  have hh := Lib.hid (here_calls m)
  have hA := Lib.hid (allot_no m 8 (by unfold I64; omega) hn)
  have b1 := m.hi
  have b2 := m.h0
  have b3 := m.h1
  have b4 : h ≤ 65536 := by omega
  have b5 : (h % 8 == 0) = true := by rw [beq_iff_eq]; exact h8
  clear m h8 b3 b1 hn
  go_enter Tryz.func40, Tryz.ntmps40
  go_wp2_with (first | ((with_reducible refine (hh.out).mono ?_); rintro e w' ⟨rfl, rfl⟩) | ((with_reducible refine (hA.out).mono ?_); rintro e w' ⟨rfl, rfl⟩))
  go_ret
  exact ⟨rfl, rfl⟩
theorem comma_ok {w : World} {p q : Nat} {B : List UInt8} {h : Int} (m : Mm w p q B h) (x : Int) (hx : I64 x) (h8 : h % 8 = 0) (hn : inH B.length h 8 = true) :
    Calls Tryz.prog 40 #[Pt p, .int .i64 x] w fun e w' => e = .returned (.int .i64 0) ∧ Mm w' p q (splice B h.toNat (le8 x)) (h + 8) ∧ Kept p q w w' := by
  have hh := Lib.hid (here_calls m)
  have hA := Lib.hid (allot_ok m 8 hn)
  unfold inH at hn
  rw [decide_eq_true_eq] at hn
  have b1 := m.hi
  have b2 := m.h0
  have b3 := m.h1
  have b4 : h ≤ 65536 := by omega
  have b5 : (h % 8 == 0) = true := by rw [beq_iff_eq]; exact h8
  have hP : ∀ W, Mm W p q B (h + 8) → Calls Tryz.prog 66 #[Pt p, .int .i64 h, .int .i64 x] W fun e w' => e = .returned (.int .i64 0) ∧ Mm w' p q (splice B h.toNat (le8 x)) (h + 8) ∧ Kept p q W w' := fun W hm => by
    have := mput_ok hm h.toNat x hx (by omega) (by omega)
    rw [Int.toNat_of_nonneg b2] at this
    exact this
  have HP := Lib.hid hP
  clear m h8 b3 b1 hn hP
  go_enter Tryz.func40, Tryz.ntmps40
  go_wp2_with fail
  refine (hh.out).mono ?_
  rintro e w' ⟨rfl, rfl⟩
  go_wp2_with fail
  refine (hA.out).mono ?_
  rintro e w1 ⟨rfl, hm, hk⟩
  go_wp2_with fail
  refine (HP.out _ hm).mono ?_
  rintro e w2 ⟨rfl, hm2, hk2⟩
  go_wp2_with fail
  go_ret
  exact ⟨rfl, hm2, hk.trans hk2⟩
theorem ccomma_no {w : World} {p q : Nat} {B : List UInt8} {h : Int} (m : Mm w p q B h) (c : Int) (hn : inH B.length h 1 = false) :
    Calls Tryz.prog 151 #[Pt p, .int .u8 c] w fun e w' => e = .returned (.int .i64 (-8)) ∧ w = w' := by
  have hh := Lib.hid (here_calls m)
  have hA := Lib.hid (allot_no m 1 (by unfold I64; omega) hn)
  clear m hn
  go_enter Tryz.func151, Tryz.ntmps151
  go_wp2_with (first | ((with_reducible refine (hh.out).mono ?_); rintro e w' ⟨rfl, rfl⟩) | ((with_reducible refine (hA.out).mono ?_); rintro e w' ⟨rfl, rfl⟩))
  go_ret
  exact ⟨rfl, rfl⟩
theorem ccomma_ok {w : World} {p q : Nat} {B : List UInt8} {h : Int} (m : Mm w p q B h) (c : UInt8) (hn : inH B.length h 1 = true) :
    Calls Tryz.prog 151 #[Pt p, .int .u8 (c.toNat : Int)] w fun e w' => e = .returned (.int .i64 0) ∧ Mm w' p q (splice B h.toNat [c]) (h + 1) ∧ Kept p q w w' := by
  have hh := Lib.hid (here_calls m)
  have hA := Lib.hid (allot_ok m 1 hn)
  unfold inH at hn
  rw [decide_eq_true_eq] at hn
  have b2 := m.h0
  have b3 := m.h1
  have hP : ∀ W, Mm W p q B (h + 1) → Calls Tryz.prog 132 #[Pt p, .int .i64 h, .int .u8 (c.toNat : Int)] W fun e w' => e = .returned (.int .i64 0) ∧ Mm w' p q (splice B h.toNat [c]) (h + 1) ∧ Kept p q W w' := fun W hm => by
    have := putbyte_ok hm h.toNat c (by omega)
    rw [Int.toNat_of_nonneg b2] at this
    exact this
  have HP := Lib.hid hP
  clear m b3 hn hP
  go_enter Tryz.func151, Tryz.ntmps151
  go_wp2_with fail
  refine (hh.out).mono ?_
  rintro e w' ⟨rfl, rfl⟩
  go_wp2_with fail
  refine (hA.out).mono ?_
  rintro e w1 ⟨rfl, hm, hk⟩
  go_wp2_with fail
  refine (HP.out _ hm).mono ?_
  rintro e w2 ⟨rfl, hm2, hk2⟩
  go_wp2_with fail
  go_ret
  exact ⟨rfl, hm2, hk.trans hk2⟩
theorem comma_none (x : Int) (w : World) :
    Calls Tryz.prog 40 #[.pointer none, .int .i64 x] w fun e w' => e = .returned (.int .i64 2) ∧ w = w' := by
  have hh := Lib.hid (here_none w)
  have hA := Lib.hid (allot_none 8 w)
  go_enter Tryz.func40, Tryz.ntmps40
  go_wp2_with (first | ((with_reducible refine (hh.out).mono ?_); rintro e w' ⟨rfl, rfl⟩) | ((with_reducible refine (hA.out).mono ?_); rintro e w' ⟨rfl, rfl⟩))
  go_ret
  exact ⟨rfl, rfl⟩
/-- A new memory. -/
def zeros (n : Nat) : List UInt8 := List.replicate n 0
theorem new_no (n : Int) (w : World) (h : n < 1024 ∨ 65536 < n ∨ n % 8 ≠ 0) (hn : I64 n) :
    Calls Tryz.prog 39 #[.int .i64 n] w fun e w' => e = .returned (.tuple #[.pointer none, .int .i64 1]) ∧ w = w' := by
  unfold I64 at hn
  by_cases h1 : n < 1024
  · clear h
    go_enter Tryz.func39, Tryz.ntmps39
    go_wp2
    go_ret2
    exact ⟨rfl, rfl⟩
  by_cases h2 : 65536 < n
  · clear h
    go_enter Tryz.func39, Tryz.ntmps39
    go_wp2
    go_ret2
    exact ⟨rfl, rfl⟩
  have h3 : (n % 8 == 0) = false := by rw [beq_eq_false_iff_ne]; omega
  clear h
  go_enter Tryz.func39, Tryz.ntmps39
  go_wp2
  go_ret2
  exact ⟨rfl, rfl⟩
theorem zeros_mm (w : World) (n : Nat) (t t2 : TypeId) (h0 : 1024 ≤ n) (h1 : n ≤ 65536) :
    Mm ((w.alloc (.cells (Array.replicate n (.int .u8 0)) t)).alloc (.cells #[.slice (some ⟨w.heap.size, 0, none⟩) n n, .int .i64 0] t2)) (w.heap.size + 1) w.heap.size (zeros n) 0 := by
  have hl : (zeros n).length = n := List.length_replicate
  have hb1 : ((w.alloc (.cells (Array.replicate n (.int .u8 0)) t)).alloc (.cells #[.slice (some ⟨w.heap.size, 0, none⟩) n n, .int .i64 0] t2)).heap[w.heap.size + 1]? = some (.cells #[.slice (some ⟨w.heap.size, 0, none⟩) n n, .int .i64 0] t2) := by
    have := (MapKept.heap_alloc (w.alloc (.cells (Array.replicate n (.int .u8 0)) t)) (.cells #[.slice (some ⟨w.heap.size, 0, none⟩) n n, .int .i64 0] t2)).1
    rwa [size_alloc] at this
  have hb0 : ((w.alloc (.cells (Array.replicate n (.int .u8 0)) t)).alloc (.cells #[.slice (some ⟨w.heap.size, 0, none⟩) n n, .int .i64 0] t2)).heap[w.heap.size]? = some (.cells (Array.replicate n (.int .u8 0)) t) := by
    rw [Below.heap_alloc _ _ _ (by rw [size_alloc]; omega)]
    exact (MapKept.heap_alloc w _).1
  refine ⟨?_, ?_, ?_, fun i hi => ?_, fun i => ?_, by omega, by rw [size_alloc, size_alloc]; omega, by rw [size_alloc, size_alloc]; omega, by omega, by omega, by omega, by omega⟩
  · simp only [World.cell?, hb1, hl]; rfl
  · simp only [World.cell?, hb1]; rfl
  · simp only [World.frozen?, hb1]; rfl
  · have hi' : i < n := by omega
    simp only [World.cell?, hb0]
    simp [zeros, hi']
  · simp only [World.frozen?, hb0]
    simp
theorem made_zeros (n : Nat) : madeCells #[.int .u8 0] (n * 1) = Array.replicate n (.int .u8 0) := by
  apply Array.toList_inj.1
  rw [toList_madeCells_one]
  simp
theorem Tryz.infoByte : (Tryz.prog.info? 5).map (fun i => (i.zero, i.size, i.bytes)) = some (some (.int .u8 0), 1, 1) := by kernel_rfl
theorem make_zeros (w : World) (n : Nat) (h : n ≤ 65536) : (Instr.makeSlice 59 (.int .i64 (n : Int)) (.int .i64 (n : Int))).run Tryz.prog w = .ok (.slice (some ⟨w.heap.size, 0, none⟩) n n) (w.alloc (.cells (Array.replicate n (.int .u8 0)) 5)) := by
  obtain ⟨i, hi, hz0, hz1, hz2⟩ := info_parts Tryz.infoByte
  have := run_make (P := Tryz.prog) w 59 5 i (.int .u8 0) Tryz.underlying59 hi hz0 .i64 .i64 n n (by omega) (Int.le_refl _) (by rw [hz2]; omega) (by omega)
  rw [this, hz1]
  simp only [Int.toNat_natCast]
  rw [← made_zeros n]
  rfl
def Fresh (w : World) (n : Nat) (e : Ending) (w' : World) : Prop := ∃ p q, e = .returned (.tuple #[Pt p, .int .i64 0]) ∧ Mm w' p q (zeros n) 0 ∧ Ext w w' ∧ w.heap.size ≤ p ∧ w.heap.size ≤ q
set_option maxRecDepth 100000 in
theorem new_ok (n : Nat) (w : World) (h0 : 1024 ≤ n) (h1 : n ≤ 65536) (h8 : n % 8 = 0) :
    Calls Tryz.prog 39 #[.int .i64 (n : Int)] w (Fresh w n) := by
  have hm := Lib.hid (zeros_mm w n 5 96 h0 h1)
  have hx := Lib.hid (((Ext.refl w).cells (Array.replicate n (.int .u8 0)) 5).cells #[.slice (some ⟨w.heap.size, 0, none⟩) n n, .int .i64 0] 96)
  have hmk := make_zeros w n h1
  have b3 : ((n : Int) % 8 == 0) = true := by rw [beq_iff_eq]; omega
  have b4 : ((n : Int) % 8 != 0) = false := by unfold bne; rw [b3]; rfl
  clear h8
  go_enter Tryz.func39, Tryz.ntmps39
  go_wp2
  go_ret2
  exact ⟨_, _, rfl, hm.out, hx.out, by omega, by omega⟩
end Go.Proofs.YtegcecpmdgljpaaGreatDoor
